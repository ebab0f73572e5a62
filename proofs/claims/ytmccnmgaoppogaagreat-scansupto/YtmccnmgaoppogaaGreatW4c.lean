/-
  The walks: is there a way round? (program)
-/
import Derived.Test.YtmccnmgaoppogaaGreatW4b
namespace Go.Proofs.YtmccnmgaoppogaaGreat
open Go.RowKit

theorem cell_new2 {w : World} {x : Value} {t : TypeId} {n : Nat} (hn : n = w.heap.size) (j : Nat) (u : Value) (h : [x][j]? = some u) : (w.alloc (.cells #[x] t)).cell? ((⟨n, 0, none⟩ : Addr).add j) = some u := by
  subst hn; exact cell_new j u h

theorem LeadsAt.toInts {w wr : World} {g n : Nat} {L : List Int} (h : LeadsAt w wr g n L) (hn : L.length = n) : Ints wr (.slice (some ⟨g, 0, none⟩) L.length n) L := by
  subst hn
  exact own_ints h rfl

/-- a store into the row of counts leaves the list of the free alone -/
theorem FreeAt.other {B : Nat} {w wr : World} {g g' n m : Nat} {q : List Nat} {L : List Int} (h : FreeAt B wr g n q) (hL : LeadsAt w wr g' m L) (hne : g ≠ g') (v : Nat) (y : Value) : FreeAt B (wr.setCell ⟨g', v, none⟩ y) g n q := by
  refine World.ownsRow.kept h (World.ownsRow.stored hL v y).2 (.inr ?_)
  simp [Value.ownBlock]; exact hne

theorem LeadsAt.lt {w wr : World} {g n : Nat} {L : List Int} (h : LeadsAt w wr g n L) : w.heap.size ≤ g ∧ g < wr.heap.size := World.ownsRow.lt h g rfl

theorem LeadsAt.grown {w wr w2 : World} {g g' n : Nat} {L : List Int} (h : LeadsAt w wr g n L) (hg : wr.grownBy w2 (some g')) (hne : g ≠ g') : LeadsAt w w2 g n L :=
  World.ownsRow.kept h hg (.inr (by simp [Value.ownBlock]; exact hne))

set_option maxHeartbeats 2000000 in
theorem hasLoop_any (v : Value) (l : List Pure.Ins) (w : World) (hv : Code w v l) (ht : Pure.Tight l) (hn : l.length ≤ 50000) :
    Calls Tryz.prog 109 #[v] w (RetB (¬ Pure.NoWay l) w) := by
  obtain ⟨i0, hi, hz0, hz1, hz2⟩ := info_parts Tryz.info3
  have HT := hide ht
  clear ht
  have HV := hide hv
  obtain ⟨ao, cap, rfl, hc1, hc2, hread⟩ := hv.read
  clear hv
  go_enter Tryz.func109, Tryz.ntmps109
  go_wp2_with fail
  refine (countLeads_any _ l w HV.out HT.out hn).mono ?_
  rintro e w1 ⟨gl, L, rfl, hb1, hL, hcnt⟩
  have hLl : L.length = l.length := hcnt.1
  have hI := hL.toInts hLl
  have HC := hide hcnt
  rw [hLl] at hI
  have HLl := hide hLl
  clear hcnt hLl
  go_wp2_with fail
  have hU := unled_any (some ⟨gl, 0, none⟩) l.length L w1 (by rw [HLl.out]; exact hI) (by rw [HLl.out]; exact hn)
  rw [HLl.out] at hU
  refine hU.mono ?_
  rintro e w2 ⟨gf, rfl, hb2, hF⟩
  clear hU hI
  have hbel2 := bel0 hb1 hb2
  have hL2 : LeadsAt w w2 gl l.length L := own_below hL hb2 (Nat.le_refl _)
  have hgl := hL.lt
  have hgf : w1.heap.size ≤ gf := (World.ownsRow.lt hF gf rfl).1
  have hne : gf ≠ gl := by omega
  have hw1 := hb1.size
  have hgl' : w.heap.size ≤ gl := hgl.1
  have hgf' : w.heap.size ≤ gf := by omega
  have HI : Hid (Pure.Inv l L (Pure.fr L l.length) [] []) := Pure.inv_first HC.out
  have HF := hide hF
  have HL2 := hide hL2
  have HB2 := hide hbel2
  clear hL hL2 hF hb1 hb2 hgl hw1 HC HLl hbel2
  go_wp2_with fail
  go_loopw [4, 5] (fun f t wr => ∃ (q : List Nat) (tn : Nat) (L' : List Int), tn ≤ q.length ∧ f = .slice (some ⟨gf, 0, none⟩) q.length l.length ∧ t = .int .i64 tn ∧ Below w.heap.size w wr ∧ LeadsAt w wr gl l.length L' ∧ FreeAt w1.heap.size wr gf l.length q ∧ Pure.Inv l L' q (q.take tn) []) (fun _ t _ => l.length - (intOf t).toNat)
  case atStart => exact ⟨Pure.fr L l.length, 0, L, Nat.zero_le _, rfl, rfl, HB2.out, HL2.out, HF.out, HI.out⟩
  case round =>
    clear HF HL2 HB2 HI
    obtain ⟨q, tn, L', htn, rfl, rfl, hbel, hL, hF, hinv⟩ := hrel
    have hql := hinv.len_le
    have HI := hide hinv
    clear hinv
    by_cases hlt : tn < q.length
    · obtain ⟨hI1, hat⟩ := Pure.inv_begin HI.out hlt
      have HI1 := hide hI1
      clear hI1 HI
      have hfc := hF.cell hlt
      generalize hat' : Pure.qg q tn = a at *
      clear hat'
      obtain ⟨b, off, rfl, hb, hc0, hc1', hc2', hc3'⟩ := hread a hat
      clear hread
      have g0 := (hbel.cell (p := ⟨b, off + a * 4, none⟩) hb).trans hc0
      have g1 := (hbel.cell (p := ⟨b, off + a * 4 + 1, none⟩) hb).trans hc1'
      have g2 := (hbel.cell (p := ⟨b, off + a * 4 + 2, none⟩) hb).trans hc2'
      have g3 := (hbel.cell (p := ⟨b, off + a * 4 + 3, none⟩) hb).trans hc3'
      clear hc0 hc1' hc2' hc3'
      go_wp2_with fail
      refine (followers_any (Pure.cg l a) a _ (by omega) (by omega)).mono ?_
      rintro e w3 ⟨rfl, hb3⟩
      have hbel3 := bel0 hbel hb3
      have hL3 : LeadsAt w w3 gl l.length L' := own_below hL hb3 (Nat.le_refl _)
      have hF3 : FreeAt w1.heap.size w3 gf l.length q := own_below hF hb3 (Nat.le_refl _)
      clear g0 g1 g2 g3 hb3 hL hF hfc hbel
      generalize hA : Pure.fa (Pure.cg l a) (a : Int) = x
      generalize hB : Pure.fb (Pure.cg l a) = x'
      have HA := hide hA
      have HB := hide hB
      clear hA hB
      have HTL : Hid ((q.take (tn + 1)).length = tn + 1) := by show (q.take (tn + 1)).length = tn + 1; rw [List.length_take]; omega
      generalize hTT : q.take (tn + 1) = T at *
      clear hTT
      go_wp2_with fail
      go_loopw [4, 29] (fun f j wq => ∃ (jn : Nat) (q' : List Nat) (L'' : List Int), jn ≤ 2 ∧ j = .int .i64 jn ∧ f = .slice (some ⟨gf, 0, none⟩) q'.length l.length ∧ Below w.heap.size w wq ∧ LeadsAt w wq gl l.length L'' ∧ FreeAt w1.heap.size wq gf l.length q' ∧ Pure.Inv l L'' q' T (Pure.rest l a jn)) (fun _ j _ => 2 - (intOf j).toNat)
      case atStart => exact ⟨0, q, L', by omega, rfl, rfl, hbel3, hL3, hF3, HI1.out⟩
      case round =>
        clear hbel3 hL3 hF3 HI1
        obtain ⟨jn, q', L'', hjn, rfl, rfl, hbelq, hLq, hFq, hinv⟩ := hrel
        have hql' := hinv.len_le
        have HJ := hide hinv
        clear hinv
        have f0 : ∀ w, (Instr.index 252 (.agg #[.int .i64 x, .int .i64 x']) (.int .i64 0)).run Tryz.prog w = .ok (.int .i64 x) w := fun _ => by kernel_rfl
        have f1 : ∀ w, (Instr.index 252 (.agg #[.int .i64 x, .int .i64 x']) (.int .i64 1)).run Tryz.prog w = .ok (.int .i64 x') w := fun _ => by kernel_rfl
        match jn, hjn with
        | 0, _ =>
          cases hbl : Pure.bel x l.length
          · go_wp2_with (go_at_call 133; refine (below_any _ _ _).mono ?_; rintro e w' ⟨rfl, rfl⟩)
            go_roundw
            case rel => exact ⟨1, q', L'', by omega, rfl, rfl, hbelq, hLq, hFq, Pure.inv_no0 HT.out hat HA.out HJ.out hbl⟩
            case measure => simp [intOf]
          · have hlen := HJ.out.len
            have hab := Pure.of_bel hbl
            have hbd := Pure.inv_bd HJ.out (v := x.toNat) (by omega)
            have hcell := hLq.cell (v := x.toNat) (by omega)
            have hfz := hLq.frozen x.toNat
            have hyes := Pure.inv_yes0 HT.out hat HA.out HJ.out hbl
            have HY := hide hyes
            clear hlen hyes
            cases hz : (Pure.ig L'' x.toNat - 1 == 0)
            · go_wp2_with (go_at_call 133; refine (below_any _ _ _).mono ?_; rintro e w' ⟨rfl, rfl⟩)
              go_roundw
              case rel => exact ⟨1, q', _, by omega, rfl, rfl, hbelq.setCell hgl' _, hLq.store _ _, hFq.other hLq hne _ _, HY.out.2 hz⟩
              case measure => simp [intOf]
            · have hI' := HY.out.1 hz
              have hqq := hI'.len_le
              simp only [List.length_append, List.length_singleton] at hqq
              have HI' := hide hI'
              clear hI' HY
              have HF' : Hid (FreeAt w1.heap.size (wr.setCell ⟨gl, x.toNat, none⟩ (.int .i64 (Pure.ig L'' x.toNat - 1))) gf l.length q') := hFq.other hLq hne _ _
              go_wp2_with (first | (go_at_call 133; refine (below_any _ _ _).mono ?_; rintro e w' ⟨rfl, rfl⟩) | (at_builtin; refine wpList_append_fits _ rfl (.tmp 48) (.tmp 50) 31 rfl w1.heap.size 3 i0 1 Tryz.underlying31 hi hz1 gf q'.length l.length (intCells (Pure.nats q')) rfl (World.ownsRow.alloc HF'.out _) ⟨wr.heap.size, 0, none⟩ 1 1 [.int .i64 x] rfl rfl (cell_new2 (by simp)) (by intro u hu; simp at hu; subst hu; rfl) (by omega) ?_; intro w4 hown4 hgrow4))
              have hF4 := FreeAt.snoc (by omega) rfl hown4
              have hL4 : LeadsAt w w4 gl l.length _ := LeadsAt.grown (World.ownsRow.alloc (hLq.store x.toNat (Pure.ig L'' x.toNat - 1)) _) hgrow4 (by omega)
              have hsz := hbelq.size
              have hbel4 : Below w.heap.size w w4 := ((hbelq.setCell hgl' _).alloc (by simp; omega) _).grown hgrow4 (by simp; omega) (fun k' h => by simp at h; omega)
              have HL4 : Hid ((q' ++ [x.toNat]).length = q'.length + 1) := by show (q' ++ [x.toNat]).length = q'.length + 1; simp
              clear hown4 hgrow4 hsz hcell hfz HF' hLq hFq hbelq
              go_wp2
              go_roundw
              case rel => exact ⟨1, q' ++ [x.toNat], _, by omega, rfl, by rw [HL4.out], hbel4, hL4, hF4, HI'.out⟩
              case measure => simp [intOf]
        | 1, _ =>
          cases hbl : Pure.bel x' l.length
          · go_wp2_with (go_at_call 133; refine (below_any _ _ _).mono ?_; rintro e w' ⟨rfl, rfl⟩)
            go_roundw
            case rel => exact ⟨2, q', L'', by omega, rfl, rfl, hbelq, hLq, hFq, Pure.inv_no1 HT.out hat HB.out HJ.out hbl⟩
            case measure => simp [intOf]
          · have hlen := HJ.out.len
            have hab := Pure.of_bel hbl
            have hbd := Pure.inv_bd HJ.out (v := x'.toNat) (by omega)
            have hcell := hLq.cell (v := x'.toNat) (by omega)
            have hfz := hLq.frozen x'.toNat
            have hyes := Pure.inv_yes1 HB.out HJ.out hbl
            have HY := hide hyes
            clear hlen hyes
            cases hz : (Pure.ig L'' x'.toNat - 1 == 0)
            · go_wp2_with (go_at_call 133; refine (below_any _ _ _).mono ?_; rintro e w' ⟨rfl, rfl⟩)
              go_roundw
              case rel => exact ⟨2, q', _, by omega, rfl, rfl, hbelq.setCell hgl' _, hLq.store _ _, hFq.other hLq hne _ _, HY.out.2 hz⟩
              case measure => simp [intOf]
            · have hI' := HY.out.1 hz
              have hqq := hI'.len_le
              simp only [List.length_append, List.length_singleton] at hqq
              have HI' := hide hI'
              clear hI' HY
              have HF' : Hid (FreeAt w1.heap.size (wr.setCell ⟨gl, x'.toNat, none⟩ (.int .i64 (Pure.ig L'' x'.toNat - 1))) gf l.length q') := hFq.other hLq hne _ _
              go_wp2_with (first | (go_at_call 133; refine (below_any _ _ _).mono ?_; rintro e w' ⟨rfl, rfl⟩) | (at_builtin; refine wpList_append_fits _ rfl (.tmp 48) (.tmp 50) 31 rfl w1.heap.size 3 i0 1 Tryz.underlying31 hi hz1 gf q'.length l.length (intCells (Pure.nats q')) rfl (World.ownsRow.alloc HF'.out _) ⟨wr.heap.size, 0, none⟩ 1 1 [.int .i64 x'] rfl rfl (cell_new2 (by simp)) (by intro u hu; simp at hu; subst hu; rfl) (by omega) ?_; intro w4 hown4 hgrow4))
              have hF4 := FreeAt.snoc (by omega) rfl hown4
              have hL4 : LeadsAt w w4 gl l.length _ := LeadsAt.grown (World.ownsRow.alloc (hLq.store x'.toNat (Pure.ig L'' x'.toNat - 1)) _) hgrow4 (by omega)
              have hsz := hbelq.size
              have hbel4 : Below w.heap.size w w4 := ((hbelq.setCell hgl' _).alloc (by simp; omega) _).grown hgrow4 (by simp; omega) (fun k' h => by simp at h; omega)
              have HL4 : Hid ((q' ++ [x'.toNat]).length = q'.length + 1) := by show (q' ++ [x'.toNat]).length = q'.length + 1; simp
              clear hown4 hgrow4 hsz hcell hfz HF' hLq hFq hbelq
              go_wp2
              go_roundw
              case rel => exact ⟨2, q' ++ [x'.toNat], _, by omega, rfl, by rw [HL4.out], hbel4, hL4, hF4, HI'.out⟩
              case measure => simp [intOf]
        | 2, _ =>
          clear f0 f1
          go_wp2
          go_roundw
          case rel => exact ⟨q', tn + 1, L'', (Pure.inv_end HJ.out HTL.out).2, rfl, by go_num, hbelq, hLq, hFq, (Pure.inv_end HJ.out HTL.out).1⟩
          case measure => simp [intOf]; omega
    · have hout := Pure.inv_out HT.out HI.out htn hlt
      have HO := hide hout.1
      have htl := hout.2
      clear hout
      go_wp2
      go_ret
      exact retB (by simp only [decide_eq_true_eq]; rw [← HO.out]) hbel

end Go.Proofs.YtmccnmgaoppogaaGreat

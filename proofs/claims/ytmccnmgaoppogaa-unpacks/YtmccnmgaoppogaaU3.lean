/-
  The walks: every Unpack. (weirlaw)
-/
import Derived.Test.YtmccnmgaoppogaaU2
import Derived.Test.YtmccnmgaoppogaaK1
import Derived.Test.YtmccnmgaoppogaaW14
namespace Go.Proofs.Ytmccnmgaoppogaa
open Go.RowKit

def RetTU (B : Nat) (w : World) (e : Ending) (w' : World) : Prop := e = .returned (.bool true) ∧ Below B w w'

theorem nil_ints (w : World) : Ints w (.slice none 0 0) [] := ⟨none, 0, rfl, Nat.le_refl _, by omega, fun i hi => by simp at hi⟩
theorem nil_rules (w : World) : Rules w (.slice none 0 0) [] := ⟨none, 0, rfl, Nat.le_refl _, by omega, fun i hi => by simp at hi⟩
theorem nil_code (w : World) : Code w (.slice none 0 0) [] := ⟨none, 0, rfl, Nat.le_refl _, by omega, fun i hi => by simp at hi⟩

/-- a program that came out: rows of its own, or nothing -/
def Out (B : Nat) (w : World) (p : Pure.Prg) (ve vr vc : Value) : Prop :=
  w.ownsRow B 3 1 ve p.ents.length (intCells p.ents) ∧ w.ownsRow B 66 3 vr p.rules.length (ruleCells p.rules) ∧ w.ownsRow B 103 4 vc p.code.length (insCells p.code)

theorem Out.alloc {B : Nat} {w : World} {p : Pure.Prg} {ve vr vc : Value} (h : Out B w p ve vr vc) (o : Obj) : Out B (w.alloc o) p ve vr vc := ⟨World.ownsRow.alloc h.1 o, World.ownsRow.alloc h.2.1 o, World.ownsRow.alloc h.2.2 o⟩
theorem Out.below {B : Nat} {w w' : World} {p : Pure.Prg} {ve vr vc : Value} (h : Out B w p ve vr vc) (hb : Below w.heap.size w w') : Out B w' p ve vr vc := ⟨own_below h.1 hb (Nat.le_refl _), own_below h.2.1 hb (Nat.le_refl _), own_below h.2.2 hb (Nat.le_refl _)⟩
theorem Out.mono {B B' : Nat} {w : World} {p : Pure.Prg} {ve vr vc : Value} (h : Out B w p ve vr vc) (hb : B' ≤ B) : Out B' w p ve vr vc := ⟨own_mono h.1 hb, own_mono h.2.1 hb, own_mono h.2.2 hb⟩

/-- both Unpacks say the same -/
theorem RetUnp.out {s : ByteArray} {w w' : World} {e : Ending} (h : RetUnp 2 s w e w') : ∃ p c ve vr vc, e = .returned (.tuple #[.agg #[ve, vr, vc], .int .i64 c]) ∧ Below w.heap.size w w' ∧ Out w.heap.size w' p ve vr vc ∧ ((Form s ∧ Pure.RightP (prgOf s)) ∧ p = prgOf s ∧ c = 0 ∨ ¬ (Form s ∧ Pure.RightP (prgOf s)) ∧ p = ⟨[], [], []⟩ ∧ c = 2) := by
  rcases h with ⟨hF, hR, ve, vr, vc, rfl, hb, h1, h2, h3⟩ | ⟨hN, rfl, hb⟩
  · refine ⟨prgOf s, 0, ve, vr, vc, rfl, hb, ⟨?_, ?_, ?_⟩, .inl ⟨⟨hF, hR⟩, rfl, rfl⟩⟩
    · rw [show (prgOf s).ents.length = nE s from entsOf_len _ _ _]; exact h1
    · rw [show (prgOf s).rules.length = nR s from rulesOf_len _ _ _]; exact h2
    · rw [show (prgOf s).code.length = nC s from codeOf_len _ _ _]; exact h3
  · exact ⟨⟨[], [], []⟩, 2, _, _, _, rfl, hb, ⟨World.ownsRow_nil _ _ _ _, World.ownsRow_nil _ _ _ _, World.ownsRow_nil _ _ _ _⟩, .inr ⟨hN, rfl, rfl⟩⟩

set_option maxRecDepth 100000 in
set_option maxHeartbeats 2000000 in
theorem unpacked_any (B bw bd : Nat) (s : ByteArray) (w : World) (hs : s.size ≤ 9223372036854775807) (hw : Blk w bw 38 [.slice none 0 0, .slice none 0 0, .pointer (some ⟨bd, 0, none⟩)])
    (hd : Blk w bd 34 [.int .i64 0, .slice none 0 0, .slice none 0 0, .slice none 0 0, .slice none 0 0, .slice none 0 0, .slice none 0 0, .slice none 0 0, .slice none 0 0]) (hB : B ≤ bd) :
    Calls Try.prog 13 #[.pointer (some ⟨bw, 0, none⟩), .string s] w (RetTU B w) := by
  have hbw := blk_lt hw
  have hbd := blk_lt hd
  have HW := hide (And.intro hw hd)
  clear hw hd
  go_enter Try.func13, Try.ntmps13
  go_wp2_with fail
  refine (unpack_any s _ hs).mono ?_
  intro e w1 h1
  obtain ⟨p, c, ve, vr, vc, rfl, hB1, hO1, hcase⟩ := h1.out
  have HC1 := hide hcase
  clear h1 hcase
  have H1 := hide hO1
  obtain ⟨ae, ce, rfl, -, he2, -⟩ := own_read hO1.1
  obtain ⟨ar, cr, rfl, -, hr2, -⟩ := own_read hO1.2.1
  obtain ⟨ac, cc, rfl, -, hc2, -⟩ := own_read hO1.2.2
  unfold maxLen at he2 hr2 hc2
  clear hO1
  have hs1 := hB1.size
  have HB1 := hide hB1
  clear hB1
  go_wp2_with fail
  refine (refUnpack_any s _ hs).mono ?_
  intro e w2 h2
  obtain ⟨q, d, ue, ur, uc, rfl, hB2, hO2, hcase⟩ := h2.out
  have HC2 := hide hcase
  clear h2 hcase
  have hpq : p = q ∧ c = d := by
    rcases HC1.out with ⟨a1, rfl, rfl⟩ | ⟨a1, rfl, rfl⟩ <;> rcases HC2.out with ⟨a2, rfl, rfl⟩ | ⟨a2, rfl, rfl⟩
    · exact ⟨rfl, rfl⟩
    · exact absurd a1 a2
    · exact absurd a2 a1
    · exact ⟨rfl, rfl⟩
  obtain ⟨rfl, rfl⟩ := hpq
  have H2 := hide hO2
  obtain ⟨be, de, rfl, -, -, -⟩ := own_read hO2.1
  obtain ⟨br, dr, rfl, -, -, -⟩ := own_read hO2.2.1
  obtain ⟨bc, dc, rfl, -, -, -⟩ := own_read hO2.2.2
  clear hO2
  -- the two programs lie in boxes
  have HP1 : Hid (Blk (w1.alloc (.cells #[.slice ae p.ents.length ce, .slice ar p.rules.length cr, .slice ac p.code.length cc] 26)) w1.heap.size 26 [.slice ae p.ents.length ce, .slice ar p.rules.length cr, .slice ac p.code.length cc]) := heap_alloc_new _ _
  have bp2 := blk_below HP1.out hB2 (blk_lt HP1.out)
  have O1 : Out w.heap.size w2 p _ _ _ := (H1.out.alloc _).below hB2
  have bel1 : Below w.heap.size w w1 := HB1.out
  have bel2 : Below w.heap.size w w2 := (bel1.alloc hs1 _).trans (hB2.mono (by simp; omega))
  have hs2 : w.heap.size ≤ w2.heap.size := bel2.size
  have hs12 : w1.heap.size < w2.heap.size := blk_lt bp2
  have q0 := blk_cell (j := 0) bp2 rfl
  have q1 := blk_cell (j := 1) bp2 rfl
  have q2 := blk_cell (j := 2) bp2 rfl
  have HBP := hide bp2
  have HO1 := hide O1
  clear bp2 O1 hB2 HP1
  go_wp2_with fail
  have HB3 := hide ((Below.refl w2.heap.size w2).alloc (Nat.le_refl _) (.cells #[.slice be p.ents.length de, .slice br p.rules.length dr, .slice bc p.code.length dc] 26))
  have I1 := HO1.out.alloc (.cells #[.slice be p.ents.length de, .slice br p.rules.length dr, .slice bc p.code.length dc] 26)
  have I2 := H2.out.alloc (.cells #[.slice be p.ents.length de, .slice br p.rules.length dr, .slice bc p.code.length dc] 26)
  refine (sameProgram_eq _ _ _ _ _ _ p _ (own_ints I1.1 rfl) (own_rules I1.2.1 rfl) (own_code I1.2.2 rfl) (own_ints I2.1 rfl) (own_rules I2.2.1 rfl) (own_code I2.2.2 rfl)).mono ?_
  rintro e w3 ⟨rfl, hB3⟩
  have O3 : Out w.heap.size w3 p _ _ _ := I1.below hB3
  have bp3 := blk_below (blk_alloc HBP.out _) hB3 (by have := blk_lt HBP.out; simp; omega)
  have bel3 : Below w.heap.size w w3 := (bel2.alloc hs2 _).trans (hB3.mono (by simp; omega))
  have bw3 := blk_below HW.out.1 bel3 hbw
  have bd3 := blk_below HW.out.2 bel3 hbd
  clear q0 q1 q2 I1 I2 hB3
  have q0 := blk_cell (j := 0) bp3 rfl
  have q1 := blk_cell (j := 1) bp3 rfl
  have q2 := blk_cell (j := 2) bp3 rfl
  have v2 := blk_cell (j := 2) bw3 rfl
  have HO3 := hide (O3.mono (B' := B) (by omega))
  have HD3 := hide bd3
  clear bp3 bw3 bd3 O3 HO1 HB3 HBP H1 H2
  go_wp2_with fail
  go_region_with (go_at_call 49; refine (keepProgram_any B bd ae ar ac _ _ _ ce cr cc _ (by exact HD3.out) hB (by exact roww_of_own HO3.out.1) (by exact roww_of_own HO3.out.2.1) (by exact roww_of_own HO3.out.2.2) he2 hr2 hc2).mono ?_; rintro e w4 ⟨rfl, hB4⟩)
  all_goals
    have bel4 : Below B w w4 := (bel3.mono (by omega)).trans (Below.trans (Below.refl B w3).drew hB4)
    have hcc : (c == c) = true := by simp
    clear q0 q1 q2 v2 hB4
    go_wp2_with go_in
    go_ret
    exact ⟨rfl, bel4⟩

end Go.Proofs.Ytmccnmgaoppogaa

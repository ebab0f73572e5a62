/-
  The walks: equal lists are told equal. (weirlaw)
-/
import Derived.Test.YtmccnmgaoppogaaGreatMem
import Derived.Deep.QuietTactic
import Derived.BigQuiet
import Derived.WalkSmall
namespace Go.Proofs.YtmccnmgaoppogaaGreat
open Go.RowKit

/-- the answer is true; nothing old has turned -/
def RetT (w : World) (e : Ending) (w' : World) : Prop := e = .returned (.bool true) ∧ Below w.heap.size w w'

set_option maxRecDepth 100000 in
set_option maxHeartbeats 1000000 in
theorem sameInts_eq (va vb : Value) (l : List Int) (w : World) (ha : Ints w va l) (hb : Ints w vb l) :
    Calls Tryz.prog 77 #[va, vb] w (RetT w) := by
  obtain ⟨aa, ca, rfl, ha1, ha2, hreadA⟩ := ha.read
  obtain ⟨ab, cb, rfl, hb1, hb2, hreadB⟩ := hb.read
  clear ha hb
  go_enter Tryz.func77, Tryz.ntmps77
  go_wp2_with fail
  go_loopw [5] (fun i wr => ∃ k : Nat, k ≤ l.length ∧ i = .int .i64 k ∧ Below w.heap.size w wr) (fun i _ => l.length - (intOf i).toNat)
  case atStart => exact ⟨0, Nat.zero_le _, rfl, Below.refl _ _⟩
  case round =>
    obtain ⟨k, hk, rfl, hbel⟩ := hrel
    by_cases hlt : k < l.length
    · obtain ⟨ba, oa, rfl, hba, e0⟩ := hreadA k hlt
      obtain ⟨bb, ob, rfl, hbb, f0⟩ := hreadB k hlt
      have g0 := (hbel.cell (p := ⟨ba, oa + k, none⟩) hba).trans e0
      have h0 := (hbel.cell (p := ⟨bb, ob + k, none⟩) hbb).trans f0
      clear e0 f0 hreadA hreadB
      generalize Pure.ig l k = x0 at *
      go_wp2_with fail
      go_quiet (fail)
      go_wp2
      go_roundw
      case rel => exact ⟨k + 1, by omega, by go_num, below_drewN hbel _⟩
      case measure => simp [intOf]; omega
    · go_wp2
      go_ret
      exact ⟨rfl, hbel⟩

set_option maxRecDepth 100000 in
set_option maxHeartbeats 1000000 in
theorem sameRules_eq (va vb : Value) (l : List Pure.Rule) (w : World) (ha : Rules w va l) (hb : Rules w vb l) :
    Calls Tryz.prog 78 #[va, vb] w (RetT w) := by
  obtain ⟨aa, ca, rfl, ha1, ha2, hreadA⟩ := ha.read
  obtain ⟨ab, cb, rfl, hb1, hb2, hreadB⟩ := hb.read
  clear ha hb
  go_enter Tryz.func78, Tryz.ntmps78
  go_wp2_with fail
  go_loopw [5] (fun i wr => ∃ k : Nat, k ≤ l.length ∧ i = .int .i64 k ∧ Below w.heap.size w wr) (fun i _ => l.length - (intOf i).toNat)
  case atStart => exact ⟨0, Nat.zero_le _, rfl, Below.refl _ _⟩
  case round =>
    obtain ⟨k, hk, rfl, hbel⟩ := hrel
    by_cases hlt : k < l.length
    · obtain ⟨ba, oa, rfl, hba, e0, e1, e2⟩ := hreadA k hlt
      obtain ⟨bb, ob, rfl, hbb, f0, f1, f2⟩ := hreadB k hlt
      have g0 := (hbel.cell (p := ⟨ba, oa + k * 3, none⟩) hba).trans e0
      have h0 := (hbel.cell (p := ⟨bb, ob + k * 3, none⟩) hbb).trans f0
      have g1 := (hbel.cell (p := ⟨ba, oa + k * 3 + 1, none⟩) hba).trans e1
      have h1 := (hbel.cell (p := ⟨bb, ob + k * 3 + 1, none⟩) hbb).trans f1
      have g2 := (hbel.cell (p := ⟨ba, oa + k * 3 + 2, none⟩) hba).trans e2
      have h2 := (hbel.cell (p := ⟨bb, ob + k * 3 + 2, none⟩) hbb).trans f2
      clear e0 e1 e2 f0 f1 f2 hreadA hreadB
      generalize (Pure.rg l k).emit = x0 at *
      generalize (Pure.rg l k).act = x1 at *
      generalize (Pure.rg l k).mode = x2 at *
      go_wp2_with fail
      go_quiet (fail)
      go_wp2
      go_roundw
      case rel => exact ⟨k + 1, by omega, by go_num, below_drewN hbel _⟩
      case measure => simp [intOf]; omega
    · go_wp2
      go_ret
      exact ⟨rfl, hbel⟩

set_option maxRecDepth 100000 in
set_option maxHeartbeats 1000000 in
theorem sameCode_eq (va vb : Value) (l : List Pure.Ins) (w : World) (ha : Code w va l) (hb : Code w vb l) :
    Calls Tryz.prog 79 #[va, vb] w (RetT w) := by
  obtain ⟨aa, ca, rfl, ha1, ha2, hreadA⟩ := ha.read
  obtain ⟨ab, cb, rfl, hb1, hb2, hreadB⟩ := hb.read
  clear ha hb
  go_enter Tryz.func79, Tryz.ntmps79
  go_wp2_with fail
  go_loopw [5] (fun i wr => ∃ k : Nat, k ≤ l.length ∧ i = .int .i64 k ∧ Below w.heap.size w wr) (fun i _ => l.length - (intOf i).toNat)
  case atStart => exact ⟨0, Nat.zero_le _, rfl, Below.refl _ _⟩
  case round =>
    obtain ⟨k, hk, rfl, hbel⟩ := hrel
    by_cases hlt : k < l.length
    · obtain ⟨ba, oa, rfl, hba, e0, e1, e2, e3⟩ := hreadA k hlt
      obtain ⟨bb, ob, rfl, hbb, f0, f1, f2, f3⟩ := hreadB k hlt
      have g0 := (hbel.cell (p := ⟨ba, oa + k * 4, none⟩) hba).trans e0
      have h0 := (hbel.cell (p := ⟨bb, ob + k * 4, none⟩) hbb).trans f0
      have g1 := (hbel.cell (p := ⟨ba, oa + k * 4 + 1, none⟩) hba).trans e1
      have h1 := (hbel.cell (p := ⟨bb, ob + k * 4 + 1, none⟩) hbb).trans f1
      have g2 := (hbel.cell (p := ⟨ba, oa + k * 4 + 2, none⟩) hba).trans e2
      have h2 := (hbel.cell (p := ⟨bb, ob + k * 4 + 2, none⟩) hbb).trans f2
      have g3 := (hbel.cell (p := ⟨ba, oa + k * 4 + 3, none⟩) hba).trans e3
      have h3 := (hbel.cell (p := ⟨bb, ob + k * 4 + 3, none⟩) hbb).trans f3
      clear e0 e1 e2 e3 f0 f1 f2 f3 hreadA hreadB
      generalize (Pure.cg l k).op = x0 at *
      generalize (Pure.cg l k).a = x1 at *
      generalize (Pure.cg l k).b = x2 at *
      generalize (Pure.cg l k).to = x3 at *
      go_wp2_with fail
      go_quiet (fail)
      go_wp2
      go_roundw
      case rel => exact ⟨k + 1, by omega, by go_num, below_drewN hbel _⟩
      case measure => simp [intOf]; omega
    · go_wp2
      go_ret
      exact ⟨rfl, hbel⟩

end Go.Proofs.YtmccnmgaoppogaaGreat

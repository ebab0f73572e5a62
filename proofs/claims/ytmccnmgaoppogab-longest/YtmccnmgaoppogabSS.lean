/-
  The walks: a scanner's small functions. (scan)
  The walks: behind a token. (scan)
  The walks: instructions. (scan)
  The walks: tokens, one behind the other. (scan)
  The walks: Feed, Finish. (scan, weir)
  The walks: Start, and the calls of a scanner. (scan, weir)
  The walks: Begin, Start. (scan, weir)
  The walks: Start. (weir)
  The walks: told: all tokens of an input. (weirkeep)
-/
import Derived.Test.YtmccnmgaoppogabSA
import Derived.Deep.LoopGhost
import Derived.Test.YtmccnmgaoppogabRA
import Derived.Lib.ConvBytes
import Derived.Laws.AppendOwnNone
namespace Go.Proofs.Ytmccnmgaoppogab
open Go.RowKit

def shut (ended : Bool) (fault : Int) : Int := if fault ≠ 0 then fault else if ended then 8 else 0

def RetSame (v : Value) (w : World) (e : Ending) (w' : World) : Prop := e = .returned v ∧ w' = w
/-- this comes back; nothing old has turned -/
def RetV (v : Value) (w : World) (e : Ending) (w' : World) : Prop := e = .returned v ∧ Below w.heap.size w w'
def RetDrew (v : Value) (w : World) (e : Ending) (w' : World) : Prop := e = .returned v ∧ ∃ n, w' = w.drewN n

set_option maxHeartbeats 1000000 in
theorem closed_any (g : Nat) (E : Pure.Env) (ve vr vc vh : Value) (C : Pure.Cfg) (fault : Int) (w : World) (m : Mach w g E ve vr vc vh C fault) :
    Calls Try.prog 57 #[.pointer (some ⟨g, 0, none⟩)] w (RetSame (.int .i64 (shut E.ended fault)) w) := by
  have c25 := m.cell (j := 25) rfl
  have c26 := m.cell (j := 26) rfl
  clear m
  by_cases hf : fault = 0
  · subst hf
    cases hE : E.ended
    · rw [hE] at c25
      go_enter Try.func57, Try.ntmps57
      go_wp2
      go_ret
      exact ⟨by simp [shut], rfl⟩
    · rw [hE] at c25
      go_enter Try.func57, Try.ntmps57
      go_wp2
      go_ret
      exact ⟨by simp [shut], rfl⟩
  · have hd : (fault != 0) = true := by simpa using hf
    go_enter Try.func57, Try.ntmps57
    go_wp2
    go_ret
    exact ⟨by simp [shut, hf], rfl⟩

set_option maxHeartbeats 1000000 in
theorem token_any (g : Nat) (E : Pure.Env) (ve vr vc vh : Value) (C : Pure.Cfg) (fault : Int) (w : World) (m : Mach w g E ve vr vc vh C fault) :
    Calls Try.prog 74 #[.pointer (some ⟨g, 0, none⟩)] w (RetV (.agg #[.int .i64 C.rule, .int .i64 C.pos, .int .i64 C.marked, .int .i64 C.line, .int .i64 C.col]) w) := by
  have c5 := m.cell (j := 5) rfl
  have c6 := m.cell (j := 6) rfl
  have c7 := m.cell (j := 7) rfl
  have c22 := m.cell (j := 22) rfl
  have c23 := m.cell (j := 23) rfl
  have hlt := blk_lt m.blk
  have hne : g ≠ w.heap.size := by omega
  clear m
  have hB := hide ((Below.refl w.heap.size w).alloc (Nat.le_refl _) (.cells #[.int .i64 C.rule, .int .i64 C.pos, .int .i64 C.marked, .int .i64 C.line, .int .i64 C.col] 38))
  go_enter Try.func74, Try.ntmps74
  go_wp2_with fail
  go_region_held3 (fun w' => w'.cell? ⟨g, 5, none⟩ = some (.int .i64 C.pos) ∧ w'.cell? ⟨g, 6, none⟩ = some (.int .i64 C.line) ∧ w'.cell? ⟨g, 7, none⟩ = some (.int .i64 C.col) ∧ w'.cell? ⟨g, 22, none⟩ = some (.int .i64 C.rule) ∧ w'.cell? ⟨g, 23, none⟩ = some (.int .i64 C.marked)) (go_keep) (fail)
  all_goals go_wp2
  all_goals exact bodyPost_ret (v := .agg #[.int .i64 C.rule, .int .i64 C.pos, .int .i64 C.marked, .int .i64 C.line, .int .i64 C.col]) (by simp [results, Try.results74, go_sem]) rfl ⟨rfl, hB.out.drew⟩

set_option maxHeartbeats 1000000 in
theorem runState_any (g : Nat) (E : Pure.Env) (ve vr vc : Value) (ah : Option Addr) (nh ch : Nat) (C : Pure.Cfg) (fault : Int) (w : World) (m : Mach w g E ve vr vc (.slice ah nh ch) C fault) (_hh : nh ≤ 9223372036854775807) :
    Calls Try.prog 28 #[.pointer (some ⟨g, 0, none⟩)] w (RetV (.agg #[.int .i64 C.pos, .int .i64 C.line, .int .i64 C.col, .int .i64 C.mode, .int .i64 C.dep, .int .i64 nh, .int .i64 C.steps]) w) := by
  have c5 := m.cell (j := 5) rfl
  have c6 := m.cell (j := 6) rfl
  have c7 := m.cell (j := 7) rfl
  have c8 := m.cell (j := 8) rfl
  have c17 := m.cell (j := 17) rfl
  have c18 := m.cell (j := 18) rfl
  have c24 := m.cell (j := 24) rfl
  have hlt := blk_lt m.blk
  have hne : g ≠ w.heap.size := by omega
  clear m
  have hB := hide ((Below.refl w.heap.size w).alloc (Nat.le_refl _) (.cells #[.int .i64 C.pos, .int .i64 C.line, .int .i64 C.col, .int .i64 C.mode, .int .i64 C.dep, .int .i64 nh, .int .i64 C.steps] 46))
  go_enter Try.func28, Try.ntmps28
  go_wp2_with fail
  go_region_held3 (fun w' => w'.cell? ⟨g, 5, none⟩ = some (.int .i64 C.pos) ∧ w'.cell? ⟨g, 6, none⟩ = some (.int .i64 C.line) ∧ w'.cell? ⟨g, 7, none⟩ = some (.int .i64 C.col) ∧ w'.cell? ⟨g, 8, none⟩ = some (.int .i64 C.mode) ∧ w'.cell? ⟨g, 17, none⟩ = some (.int .i64 C.dep) ∧ w'.cell? ⟨g, 24, none⟩ = some (.slice ah nh ch) ∧ w'.cell? ⟨g, 18, none⟩ = some (.int .i64 C.steps)) (go_keep) (fail)
  all_goals go_wp2
  all_goals exact bodyPost_ret (v := .agg #[.int .i64 C.pos, .int .i64 C.line, .int .i64 C.col, .int .i64 C.mode, .int .i64 C.dep, .int .i64 nh, .int .i64 C.steps]) (by simp [results, Try.results28, go_sem]) rfl ⟨rfl, hB.out.drew⟩

set_option maxHeartbeats 1000000 in
theorem state_any (g : Nat) (E : Pure.Env) (ve vr vc : Value) (ah : Option Addr) (nh ch : Nat) (C : Pure.Cfg) (fault : Int) (w : World) (m : Mach w g E ve vr vc (.slice ah nh ch) C fault) (hh : nh ≤ 9223372036854775807) :
    Calls Try.prog 18 #[.pointer (some ⟨g, 0, none⟩)] w (RetV (.agg #[.int .i64 C.pos, .int .i64 C.line, .int .i64 C.col, .int .i64 C.mode, .int .i64 C.dep, .int .i64 nh, .int .i64 C.steps]) w) := by
  have M := hide (m.alloc (.cells #[.int .i64 0, .int .i64 0, .int .i64 0, .int .i64 0, .int .i64 0, .int .i64 0, .int .i64 0] 46))
  have hB := hide ((Below.refl w.heap.size w).alloc (Nat.le_refl _) (.cells #[.int .i64 0, .int .i64 0, .int .i64 0, .int .i64 0, .int .i64 0, .int .i64 0, .int .i64 0] 46))
  clear m
  go_enter Try.func18, Try.ntmps18
  go_wp2_with fail
  refine (runState_any g E ve vr vc ah nh ch C fault _ M.out hh).mono ?_
  rintro e w1 ⟨rfl, hB1⟩
  have b1 := hB.out.trans (hB1.mono (by simp))
  have hz : w.heap.size < w1.heap.size := by have := hB1.size; simp at this; omega
  have k1 : Blk w1 w.heap.size 46 [.int .i64 0, .int .i64 0, .int .i64 0, .int .i64 0, .int .i64 0, .int .i64 0, .int .i64 0] := blk_below (heap_alloc_new w (.cells #[.int .i64 0, .int .i64 0, .int .i64 0, .int .i64 0, .int .i64 0, .int .i64 0, .int .i64 0] 46)) hB1 (by simp)
  have o0 := blk_cell (j := 0) k1 rfl
  have o1 := blk_cell (j := 1) k1 rfl
  have o2 := blk_cell (j := 2) k1 rfl
  have o3 := blk_cell (j := 3) k1 rfl
  have o4 := blk_cell (j := 4) k1 rfl
  have o5 := blk_cell (j := 5) k1 rfl
  have o6 := blk_cell (j := 6) k1 rfl
  have f0 := blk_frozen k1 0
  have f1 := blk_frozen k1 1
  have f2 := blk_frozen k1 2
  have f3 := blk_frozen k1 3
  have f4 := blk_frozen k1 4
  have f5 := blk_frozen k1 5
  have f6 := blk_frozen k1 6
  clear k1 hB1
  go_wp2
  refine bodyPost_ret (v := .agg #[.int .i64 C.pos, .int .i64 C.line, .int .i64 C.col, .int .i64 C.mode, .int .i64 C.dep, .int .i64 nh, .int .i64 C.steps]) (by simp [results, Try.results18, go_sem, o0, o1, o2, o3, o4, o5, o6]) rfl ⟨rfl, ?_⟩
  exact ((((((b1.setCell (Nat.le_refl _) _).setCell (Nat.le_refl _) _).setCell (Nat.le_refl _) _).setCell (Nat.le_refl _) _).setCell (Nat.le_refl _) _).setCell (Nat.le_refl _) _).setCell (Nat.le_refl _) _

set_option maxHeartbeats 2000000 in
theorem judge_any (g : Nat) (E : Pure.Env) (ve vr vc vh : Value) (C : Pure.Cfg) (fault : Int) (w : World) (m : Mach w g E ve vr vc vh C fault) (hp : Pure.RightP E.p) (hr : 0 ≤ C.rule ∧ C.rule < E.p.rules.length) :
    Calls Try.prog 73 #[.pointer (some ⟨g, 0, none⟩)] w (RetDrew (.int .i64 (Pure.wrong E.p E.depth C)) w) := by
  obtain ⟨-, ⟨gr, cr, rfl, hr1, hr2⟩, -⟩ := m.l.someE hp
  have c1 := m.cell (j := 1) rfl
  have c4 := m.cell (j := 4) rfl
  have c17 := m.cell (j := 17) rfl
  have c22 := m.cell (j := 22) rfl
  have c23 := m.cell (j := 23) rfl
  have q := own_rule m.l.r (i := C.rule.toNat) (by omega)
  have q1 := q.2.1
  have HW : Hid (Pure.wrong E.p E.depth C = if C.marked = 0 then 4 else if (Pure.rg E.p.rules C.rule.toNat).act = 2 ∧ E.depth ≤ C.dep then 6 else if (Pure.rg E.p.rules C.rule.toNat).act = 3 ∧ C.dep = 0 then 7 else 0) := rfl
  obtain ⟨k, hk⟩ := Int.eq_ofNat_of_zero_le hr.1
  rw [hk] at c22 q1 hr HW
  rw [HW.out]
  rw [Int.toNat_natCast] at q1 ⊢
  have hkl : k < E.p.rules.length := by omega
  clear q m hk HW hr
  generalize (Pure.rg E.p.rules k).act = a at *
  generalize E.p.rules.length = nr at *
  generalize C.marked = mk at *
  generalize C.dep = dp at *
  generalize E.depth = dt at *
  by_cases h0 : mk = 0
  · subst h0
    go_enter Try.func73, Try.ntmps73
    go_wp2
    go_ret
    exact ⟨by simp, 0, rfl⟩
  have d0 : (mk == 0) = false := by simpa using h0
  by_cases h2 : a = 2
  · subst h2
    by_cases hd : dt ≤ dp
    · go_enter Try.func73, Try.ntmps73
      go_wp2_with fail
      go_quiet (fail)
      go_wp2_with fail
      go_quiet (fail)
      go_wp2
      go_ret
      exact ⟨by simp, _, rfl⟩
    · have hd' : decide (dt ≤ dp) = false := by simpa using hd
      go_enter Try.func73, Try.ntmps73
      go_wp2_with fail
      go_quiet (fail)
      go_wp2_with fail
      go_quiet (fail)
      go_wp2
      go_ret
      exact ⟨by simp, _, rfl⟩
  have d2 : (a == 2) = false := by simpa using h2
  by_cases h3 : a = 3
  · subst h3
    by_cases hd : dp = 0
    · subst hd
      go_enter Try.func73, Try.ntmps73
      go_wp2_with fail
      go_quiet (fail)
      go_wp2
      go_ret
      exact ⟨by simp, _, rfl⟩
    · have hd' : (dp == 0) = false := by simpa using hd
      go_enter Try.func73, Try.ntmps73
      go_wp2_with fail
      go_quiet (fail)
      go_wp2
      go_ret
      exact ⟨by simp, _, rfl⟩
  have d3 : (a == 3) = false := by simpa using h3
  go_enter Try.func73, Try.ntmps73
  go_wp2_with fail
  go_quiet (fail)
  go_wp2
  go_ret
  exact ⟨by simp, _, rfl⟩

end Go.Proofs.Ytmccnmgaoppogab

namespace Go.Proofs.Ytmccnmgaoppogab
open Go.RowKit

/-- the machine is there, otherwise; nothing else has turned -/
def RetM (v : Value) (g : Nat) (E : Pure.Env) (ve vr vc vh : Value) (C : Pure.Cfg) (fault : Int) (w : World) (e : Ending) (w' : World) : Prop :=
  e = .returned v ∧ Mach w' g E ve vr vc vh C fault ∧ w.grownBy w' (some g)

def passed (b : ByteArray) (k : Nat) (C : Pure.Cfg) : Pure.Cfg := { C with pos := C.pos + k, line := (Pure.adv b 0 k (C.line, C.col)).1, col := (Pure.adv b 0 k (C.line, C.col)).2 }

set_option maxRecDepth 100000 in
set_option maxHeartbeats 2000000 in
theorem pass_any (g : Nat) (E : Pure.Env) (ve vr vc vh : Value) (C : Pure.Cfg) (fault : Int) (b : ByteArray) (w : World) (m : Mach w g E ve vr vc vh C fault)
    (hp : 0 ≤ C.pos ∧ C.pos ≤ 1125899906842624) (hl : 1 ≤ C.line ∧ C.line ≤ 1125899906842624) (hc : 1 ≤ C.col ∧ C.col ≤ 1125899906842624) (hb : b.size ≤ 1125899906842624) :
    Calls Try.prog 75 #[.pointer (some ⟨g, 0, none⟩), .string b] w (RetM (.tuple #[]) g E ve vr vc vh (passed b b.size C) fault w) := by
  have M := hide m
  clear m
  go_enter Try.func75, Try.ntmps75
  go_wp2_with fail
  go_loopw [4] (fun i wr => ∃ k : Nat, k ≤ b.size ∧ i = .int .i64 k ∧ Mach wr g E ve vr vc vh (passed b k C) fault ∧ w.grownBy wr (some g)) (fun i _ => b.size - (intOf i).toNat)
  case atStart => exact ⟨0, Nat.zero_le _, rfl, by have : passed b 0 C = C := by simp [passed, Pure.adv]
                                                   rw [this]; exact M.out, ⟨rfl, rfl, rfl, Nat.le_refl _, fun _ _ _ => rfl⟩⟩
  case round =>
    clear M
    obtain ⟨k, hk, rfl, hm, hg⟩ := hrel
    by_cases hlt : k < b.size
    · have x0 := fun w => idx_str b (k : Int) k rfl hlt w
      have c5 := hm.cell (j := 5) rfl
      have c6 := hm.cell (j := 6) rfl
      have c7 := hm.cell (j := 7) rfl
      have f5 := hm.frozen 5
      have f6 := hm.frozen 6
      have f7 := hm.frozen 7
      have hB := Pure.adv_bd b 0 k (C.line, C.col) hl.1 hc.1
      simp only at hB
      have hk1 : (k : Int) < (b.size : Int) := by omega
      have HK : Hid (Mach wr g E ve vr vc vh { C with pos := C.pos + k, line := (Pure.adv b 0 k (C.line, C.col)).1, col := (Pure.adv b 0 k (C.line, C.col)).2 } fault ∧ w.grownBy wr (some g)) := And.intro hm hg
      have EP : Hid (passed b (k + 1) C = { C with pos := C.pos + k + 1, line := if bt b k = 10 then (Pure.adv b 0 k (C.line, C.col)).1 + 1 else (Pure.adv b 0 k (C.line, C.col)).1, col := if bt b k = 10 then 1 else (Pure.adv b 0 k (C.line, C.col)).2 + 1 }) := by
        show passed b (k + 1) C = _
        unfold passed
        simp only [Pure.adv, Nat.zero_add]
        have e1 : C.pos + ((k + 1 : Nat) : Int) = C.pos + k + 1 := by omega
        rw [e1]
        by_cases h : bt b k = 10
        · simp only [if_pos h]
        · simp only [if_neg h]
      clear hm hg
      unfold passed at c5 c6 c7
      simp only at c5 c6 c7
      generalize (Pure.adv b 0 k (C.line, C.col)).1 = L at *
      generalize (Pure.adv b 0 k (C.line, C.col)).2 = K at *
      generalize bt b k = y at *
      by_cases hy : y = 10
      · subst hy
        go_wp2
        go_roundw
        case rel =>
          refine ⟨k + 1, by omega, by go_num, ?_, ?_⟩
          · rw [EP.out, if_pos rfl, if_pos rfl]
            exact (((HK.out.1.set 5 (.int .i64 (C.pos + k + 1)) E rfl (D := { C with pos := C.pos + k + 1, line := L, col := K }) rfl).set 7 (.int .i64 (K + 1)) E rfl (D := { C with pos := C.pos + k + 1, line := L, col := K + 1 }) rfl).set 6 (.int .i64 (L + 1)) E rfl (D := { C with pos := C.pos + k + 1, line := L + 1, col := K + 1 }) rfl).set 7 (.int .i64 1) E rfl rfl
          · exact grown_set (grown_set (grown_set (grown_set HK.out.2 _ _) _ _) _ _) _ _
        case measure => simp [intOf]; omega
      · have dy : (y == 10) = false := by simpa using hy
        go_wp2
        go_roundw
        case rel =>
          refine ⟨k + 1, by omega, by go_num, ?_, ?_⟩
          · rw [EP.out, if_neg hy, if_neg hy]
            exact (HK.out.1.set 5 (.int .i64 (C.pos + k + 1)) E rfl (D := { C with pos := C.pos + k + 1, line := L, col := K }) rfl).set 7 (.int .i64 (K + 1)) E rfl rfl
          · exact grown_set (grown_set HK.out.2 _ _) _ _
        case measure => simp [intOf]; omega
    · have hkl : k = b.size := by omega
      subst hkl
      have HK := hide (And.intro hm hg)
      clear hm hg
      go_wp2
      go_end0
      exact ⟨rfl, HK.out.1, HK.out.2⟩

def acted (r : Pure.Rule) (C : Pure.Cfg) : Pure.Cfg := { C with mode := Pure.newMode r C, stk := Pure.newStk r C, dep := Pure.newDep r C }

set_option maxRecDepth 100000 in
set_option maxHeartbeats 2000000 in
theorem act_any (g : Nat) (E : Pure.Env) (ve vr vc vh : Value) (C : Pure.Cfg) (fault : Int) (r : Pure.Rule) (w : World) (m : Mach w g E ve vr vc vh C fault)
    (hl : C.stk.length = 8) (hd : 0 ≤ C.dep ∧ C.dep ≤ 8) (h2 : r.act = 2 → C.dep < 8) (h3 : r.act = 3 → 0 < C.dep) :
    Calls Try.prog 76 #[.pointer (some ⟨g, 0, none⟩), .agg #[.int .i64 r.emit, .int .i64 r.act, .int .i64 r.mode]] w (RetM (.tuple #[]) g E ve vr vc vh (acted r C) fault w) := by
  obtain ⟨em, a, md⟩ := r
  simp only at *
  obtain ⟨d, hdd⟩ := Int.eq_ofNat_of_zero_le hd.1
  have hlt := blk_lt m.blk
  have hne : g ≠ w.heap.size := by omega
  have hne' : w.heap.size ≠ g := by omega
  have c8 := m.cell (j := 8) rfl
  have c17 := m.cell (j := 17) rfl
  have f8 := m.frozen 8
  have f17 := m.frozen 17
  rw [hdd] at c17 hd h2 h3
  have G0 : Hid (w.grownBy w (some g)) := ⟨rfl, rfl, rfl, Nat.le_refl _, fun _ _ _ => rfl⟩
  have HM := hide m
  by_cases h1 : a = 1
  · subst h1
    have EP : Hid (acted ⟨em, 1, md⟩ C = { C with mode := md }) := by show _ = _; simp [acted, Pure.newMode, Pure.newStk, Pure.newDep]
    rw [EP.out]
    clear m hdd EP
    go_enter Try.func76, Try.ntmps76
    go_wp2
    go_end0
    exact ⟨rfl, (HM.out.set 8 (.int .i64 md) E rfl rfl).alloc _, grown_alloc (grown_set G0.out _ _) _⟩
  have d1 : (a == 1) = false := by simpa using h1
  by_cases h2' : a = 2
  · subst h2'
    have hd8 := h2 rfl
    have hd8' : d < 8 := by omega
    have fd := m.frozen (9 + d)
    have n1 : ¬ (17 = 9 + d) := by omega
    have n2 : ¬ (8 = 9 + d) := by omega
    have n3 : ¬ (9 + d = 17) := by omega
    have n4 : ¬ (9 + d = 8) := by omega
    have cd := m.cell (j := 9 + d) (runCells_stk hd8')
    have EP : Hid (acted ⟨em, 2, md⟩ C = { C with mode := md, stk := C.stk.set d C.mode, dep := d + 1 }) := by show _ = _; simp [acted, Pure.newMode, Pure.newStk, Pure.newDep, hdd]
    rw [EP.out]
    have M1 := hide (HM.out.set (9 + d) (.int .i64 C.mode) E rfl (runCells_push hd8' hl _))
    have T1 : Hid (∀ o, ((w.setCell ⟨g, 9 + d, none⟩ (.int .i64 C.mode)).alloc o).cell? ⟨g, 17, none⟩ = some (.int .i64 d) ∧ ((w.setCell ⟨g, 9 + d, none⟩ (.int .i64 C.mode)).alloc o).cell? ⟨g, 8, none⟩ = some (.int .i64 C.mode)) := fun o => ⟨(M1.out.alloc o).cell (j := 17) (by show some (Value.int .i64 C.dep) = _; rw [hdd]), (M1.out.alloc o).cell (j := 8) rfl⟩
    clear m hdd EP h2 h3
    go_enter Try.func76, Try.ntmps76
    go_wp2_with fail
    go_region_held3 (fun w' => w'.cell? ⟨g, 17, none⟩ = some (.int .i64 d) ∧ w'.cell? ⟨g, 8, none⟩ = some (.int .i64 C.mode)) (first | exact T1.out _ | go_keep) (fail)
    clear T1
    all_goals go_wp2
    all_goals go_end0
    all_goals exact ⟨rfl, (((M1.out.set 17 (.int .i64 (d + 1)) E rfl (D := { C with stk := C.stk.set d C.mode, dep := d + 1 }) rfl).set 8 (.int .i64 md) E rfl rfl).alloc _).drew, grown_drew (grown_alloc (grown_set (grown_set (grown_set G0.out _ _) _ _) _ _) _)⟩
  have d2 : (a == 2) = false := by simpa using h2'
  by_cases h3' : a = 3
  · subst h3'
    have hd0 := h3 rfl
    obtain ⟨k, hk⟩ : ∃ k, d = k + 1 := ⟨d - 1, by omega⟩
    subst hk
    have hd8' : k < 8 := by omega
    have cd := m.cell (j := 9 + k) (runCells_stk hd8')
    have i1 : (0 : Int) ≤ (k : Int) := by omega
    have i2 : (k : Int) < 8 := by omega
    have n1 : ¬ (17 = 9 + k) := by omega
    have n2 : ¬ (8 = 9 + k) := by omega
    have n3 : ¬ (9 + k = 17) := by omega
    have n4 : ¬ (9 + k = 8) := by omega
    have EP : Hid (acted ⟨em, 3, md⟩ C = { C with mode := Pure.ig C.stk k, dep := k }) := by
      show _ = _
      have e1 : (C.dep - 1).toNat = k := by omega
      have e2 : C.dep - 1 = k := by omega
      simp [acted, Pure.newMode, Pure.newStk, Pure.newDep, e2]
    rw [EP.out]
    have e3 : ((k + 1 : Nat) : Int) = (k : Int) + 1 := by omega
    rw [e3] at c17
    have M1 := hide (HM.out.set 17 (.int .i64 k) E rfl (D := { C with dep := k }) rfl)
    have M2 := hide (M1.out.set 8 (.int .i64 (Pure.ig C.stk k)) E rfl (D := { C with dep := k, mode := Pure.ig C.stk k }) rfl)
    have T1 : Hid (∀ o, ((w.setCell ⟨g, 17, none⟩ (.int .i64 k)).alloc o).cell? ⟨g, 17, none⟩ = some (.int .i64 k) ∧ ((w.setCell ⟨g, 17, none⟩ (.int .i64 k)).alloc o).cell? ⟨g, 9 + k, none⟩ = some (.int .i64 (Pure.ig C.stk k))) := fun o => ⟨(M1.out.alloc o).cell (j := 17) rfl, (M1.out.alloc o).cell (j := 9 + k) (runCells_stk hd8')⟩
    have T2 : Hid (∀ o, (((w.setCell ⟨g, 17, none⟩ (.int .i64 k)).setCell ⟨g, 8, none⟩ (.int .i64 (Pure.ig C.stk k))).alloc o).cell? ⟨g, 17, none⟩ = some (.int .i64 k) ∧ (((w.setCell ⟨g, 17, none⟩ (.int .i64 k)).setCell ⟨g, 8, none⟩ (.int .i64 (Pure.ig C.stk k))).alloc o).cell? ⟨g, 9 + k, none⟩ = some (.int .i64 (Pure.ig C.stk k))) := fun o => ⟨(M2.out.alloc o).cell (j := 17) rfl, (M2.out.alloc o).cell (j := 9 + k) (runCells_stk hd8')⟩
    clear m hdd EP h2 h3
    go_enter Try.func76, Try.ntmps76
    go_wp2_with fail
    go_region_held3 (fun w' => w'.cell? ⟨g, 17, none⟩ = some (.int .i64 k) ∧ w'.cell? ⟨g, 9 + k, none⟩ = some (.int .i64 (Pure.ig C.stk k))) (first | exact T1.out _ | exact T2.out _ | go_keep) (fail)
    clear T1 T2
    all_goals go_wp2
    all_goals go_end0
    all_goals exact ⟨rfl, (((HM.out.set 17 (.int .i64 k) E rfl (D := { C with dep := k }) rfl).set 8 (.int .i64 (Pure.ig C.stk k)) E rfl rfl).alloc _).drew, grown_drew (grown_alloc (grown_set (grown_set G0.out _ _) _ _) _)⟩
  have d3 : (a == 3) = false := by simpa using h3'
  have EP : Hid (acted ⟨em, a, md⟩ C = C) := by show _ = _; simp [acted, Pure.newMode, Pure.newStk, Pure.newDep, h1, h2', h3']
  rw [EP.out]
  clear m hdd EP h2 h3
  go_enter Try.func76, Try.ntmps76
  go_wp2
  go_end0
  exact ⟨rfl, HM.out.alloc _, grown_alloc G0.out _⟩

end Go.Proofs.Ytmccnmgaoppogab

namespace Go.Proofs.Ytmccnmgaoppogab
open Go.RowKit

theorem Pure.Sta.bound {E : Pure.Env} {f : Nat → Int} {C : Pure.Cfg} (_g : Pure.Good E f) (h : Pure.Sta E f C) : C.steps ≤ (E.s.size + 1) * Pure.per E := by
  have h1 := h.steps.2
  have := Pure.per_up (E := E) (a := C.pos) (b := E.s.size + 1) (k := C.looked) h.looked (by have := h.within; have := h.looked; omega)
  omega
theorem Pure.Good.per {E : Pure.Env} {f : Nat → Int} (g : Pure.Good E f) : 0 ≤ Pure.per E ∧ Pure.per E ≤ 3250000 := by
  have n := g.n1
  have m := g.most
  unfold Pure.per
  refine ⟨Int.mul_nonneg (by omega) (by omega), ?_⟩
  have h1 : (E.most + 1) * (E.p.code.length : Int) ≤ 65 * (E.p.code.length : Int) := Int.mul_le_mul_of_nonneg_right (by omega) (by omega)
  omega
theorem Pure.Sta.steps_small {E : Pure.Env} {f : Nat → Int} {C : Pure.Cfg} (g : Pure.Good E f) (h : Pure.Sta E f C) (hs : E.s.size ≤ 1099511627776) : C.steps ≤ 4000000000000000000 := by
  have h1 := h.bound g
  have p := g.per
  have h2 : ((E.s.size : Int) + 1) * Pure.per E ≤ ((E.s.size : Int) + 1) * 3250000 := Int.mul_le_mul_of_nonneg_left p.2 (by omega)
  omega

def RetSeek (g : Nat) (E : Pure.Env) (ve vr vc vh : Value) (C : Pure.Cfg) (w : World) (e : Ending) (w' : World) : Prop :=
  ∃ D, Pure.Rch E C D ∧ D.err = 0 ∧ D.pos = C.pos ∧ w.grownBy w' (some g) ∧
    ((e = .returned (.tuple #[.bool false, .int .i64 0]) ∧ Pure.look E D = .wait ∧ Mach w' g E ve vr vc vh D 0) ∨
     ∃ F er, e = .returned (.tuple #[.bool true, .int .i64 er]) ∧ Pure.look E D = .stop F er ∧ Mach w' g E ve vr vc vh F 0)

def SeekInv (f : Nat → Int) (g : Nat) (E : Pure.Env) (ve vr vc vh : Value) (C : Pure.Cfg) (w : World) (gk : Nat) (wr : World) : Prop :=
  ∃ D, Pure.Rch E C D ∧ Pure.Sta E f D ∧ D.err = 0 ∧ D.pos = C.pos ∧ Mach wr g E ve vr vc vh D 0 ∧ w.grownBy wr (some g) ∧ gk = ((E.s.size + 1) * Pure.per E - D.steps).toNat

theorem SeekInv.next {f : Nat → Int} {g : Nat} {E : Pure.Env} {ve vr vc vh : Value} {C D F : Pure.Cfg} {w wr : World} (gd : Pure.Good E f) (r : Pure.Rch E C D) (h : Pure.Sta E f D) (he : D.err = 0) (hp : D.pos = C.pos) (hpos : D.pos < E.s.size) (hl : Pure.look E D = .go F)
    (m : Mach wr g E ve vr vc vh F 0) (hg : w.grownBy wr (some g)) : ∃ k, k < ((E.s.size + 1) * Pure.per E - D.steps).toNat ∧ SeekInv f g E ve vr vc vh C w k wr := by
  have q := Pure.look_go gd h he hl
  have b := q.1.bound gd
  refine ⟨((E.s.size + 1) * Pure.per E - F.steps).toNat, by rw [q.2.2.2.1] at b ⊢; omega, F, .step r ?_, q.1, q.2.1, q.2.2.1.trans hp, m, hg, rfl⟩
  unfold Pure.mic
  rw [if_neg (by omega), hl]

set_option maxRecDepth 100000 in
set_option maxHeartbeats 4000000 in
theorem seek_any (f : Nat → Int) (g : Nat) (E : Pure.Env) (ve vr vc vh : Value) (C : Pure.Cfg) (w : World) (gd : Pure.Good E f) (h : Pure.Sta E f C) (he : C.err = 0) (hpos : C.pos < E.s.size) (hs : E.s.size ≤ 1099511627776) (m : Mach w g E ve vr vc vh C 0) :
    Calls Try.prog 72 #[.pointer (some ⟨g, 0, none⟩), .string (E.s.extract C.pos.toNat E.s.size)] w (RetSeek g E ve vr vc vh C w) := by
  obtain ⟨-, -, ⟨gc, cc, rfl, hc1, hc2⟩⟩ := m.l.someE gd.right
  have H0 : Hid (SeekInv f g E ve vr (.slice (some ⟨gc, 0, none⟩) E.p.code.length cc) vh C w ((E.s.size + 1) * Pure.per E - C.steps).toNat w) := ⟨C, .refl _, h, he, rfl, m, ⟨rfl, rfl, rfl, Nat.le_refl _, fun _ _ _ => rfl⟩, rfl⟩
  have hp0 := h.pos
  have GD := hide gd
  have PC : Hid (C.pos < E.s.size) := hpos
  have BT : Hid (∀ n, C.pos.toNat + n < E.s.size → bt (E.s.extract C.pos.toNat E.s.size) n = bt E.s (C.pos.toNat + n)) := fun n hn => bt_extract E.s C.pos.toNat E.s.size n (Nat.le_refl _) hn
  have HSZ : Hid ((E.s.extract C.pos.toNat E.s.size).size = E.s.size - C.pos.toNat) := by show _ = _; simp
  generalize E.s.extract C.pos.toNat E.s.size = rest at *
  clear h he m gd hpos
  go_enter Try.func72, Try.ntmps72
  go_wp2_with fail
  go_loopg [] ((E.s.size + 1) * Pure.per E - C.steps).toNat (fun gk wr => SeekInv f g E ve vr (.slice (some ⟨gc, 0, none⟩) E.p.code.length cc) vh C w gk wr)
  case atStart => exact H0.out
  case round =>
    clear H0
    obtain ⟨D, hr, hst, he, hpp, hm, hg, rfl⟩ := hrel
    have HR := hide (And.intro hr (And.intro hst (And.intro he hpp)))
    have hi := hst.ins
    have hi' := (hst.live he).1
    have hlk := hst.looked
    have hmk := hst.marked
    have hcc := hst.c
    have hstp := hst.steps.1
    have hstb := hst.steps_small GD.out hs
    have hwi := hst.within
    have n1 := GD.out.n1
    have m1 := GD.out.most
    obtain ⟨k, hk⟩ := Int.eq_ofNat_of_zero_le hi.1
    have hk1 : k < E.p.code.length := by omega
    have hk2 : (k : Int) < (E.p.code.length : Int) := by omega
    obtain ⟨lk, hlkk⟩ := Int.eq_ofNat_of_zero_le hlk.1
    have c2 := hm.cell (j := 2) rfl
    have c19 := hm.cell (j := 19) rfl
    rw [hk] at c19
    have HM := hide (And.intro hm hg)
    have HK := hide (And.intro hk hlkk)
    have ok := GD.out.insOK hk1
    have nx := GD.out.next hk1
    rw [hpp] at hwi
    rw [hlkk] at hlk hmk hwi
    clear hm hg hr hst hk hi hi' hlkk hpp he
    go_wp2_with fail
    go_quiet (fail)
    clear c2 c19
    have HM1 := hide (And.intro (HM.out.1.drewN nq) (grown_drewN HM.out.2 nq))
    clear HM
    generalize wr.drewN nq = W at *
    have hm := HM1.out.1
    have q := own_ins hm.l.c hk1
    have q0 := q.1
    have q1 := q.2.1
    have q2 := q.2.2.1
    have q3 := q.2.2.2
    have far := own_far hm.l.c hm.blk (by decide)
    have glt := blk_lt hm.blk
    have clt := (own_base hm.l.c).2
    have c2 := hm.cell (j := 2) rfl
    have c19 := hm.cell (j := 19) rfl
    rw [HK.out.1] at c19
    have ne1 : g ≠ W.heap.size := by omega
    have ne2 : gc ≠ W.heap.size := by omega
    have ne1' : W.heap.size ≠ g := by omega
    have ne2' : W.heap.size ≠ gc := by omega
    have ne3 : g ≠ gc := fun e => far e.symm
    unfold Pure.InsOK at ok
    clear q hm
    go_wp2_with fail
    generalize hX : Pure.cg E.p.code k = x at *
    have HX := hide hX
    clear hX
    go_region_held3 (fun w' => w'.cell? ⟨g, 2, none⟩ = some (.slice (some ⟨gc, 0, none⟩) E.p.code.length cc) ∧ w'.cell? ⟨g, 19, none⟩ = some (.int .i64 k) ∧ w'.cell? ⟨gc, k * 4, none⟩ = some (.int .i64 x.op) ∧ w'.cell? ⟨gc, k * 4 + 1, none⟩ = some (.int .i64 x.a) ∧ w'.cell? ⟨gc, k * 4 + 2, none⟩ = some (.int .i64 x.b) ∧ w'.cell? ⟨gc, k * 4 + 3, none⟩ = some (.int .i64 x.to)) (go_keep) (fail)
    rename_i hh
    clear hh q0 q1 q2 q3 c2 c19
    have M2 := hide (And.intro (HM1.out.1.alloc (.cells #[.int .i64 x.op, .int .i64 x.a, .int .i64 x.b, .int .i64 x.to] 108)).drew (grown_drew (grown_alloc HM1.out.2 (.cells #[.int .i64 x.op, .int .i64 x.a, .int .i64 x.b, .int .i64 x.to] 108))))
    have KI : Blk (W.alloc (.cells #[.int .i64 x.op, .int .i64 x.a, .int .i64 x.b, .int .i64 x.to] 108)).drew W.heap.size 108 [.int .i64 x.op, .int .i64 x.a, .int .i64 x.b, .int .i64 x.to] := heap_alloc_new _ _
    clear HM1
    generalize (W.alloc (.cells #[.int .i64 x.op, .int .i64 x.a, .int .i64 x.b, .int .i64 x.to] 108)).drew = X at *
    generalize W.heap.size = gi at *
    have i0 := blk_cell (j := 0) KI rfl
    have i1 := blk_cell (j := 1) KI rfl
    have i2 := blk_cell (j := 2) KI rfl
    have i3 := blk_cell (j := 3) KI rfl
    clear KI far glt clt ne2 ne2' ne3 hc1 hc2
    have hm := M2.out.1
    have c3 := hm.cell (j := 3) rfl
    have c18 := hm.cell (j := 18) rfl
    have c19 := hm.cell (j := 19) rfl
    have c20 := hm.cell (j := 20) rfl
    have c21 := hm.cell (j := 21) rfl
    have c22 := hm.cell (j := 22) rfl
    have c23 := hm.cell (j := 23) rfl
    have c25 := hm.cell (j := 25) rfl
    have f18 := hm.frozen 18
    have f19 := hm.frozen 19
    have f20 := hm.frozen 20
    have f21 := hm.frozen 21
    have f22 := hm.frozen 22
    have f23 := hm.frozen 23
    rw [HK.out.1] at c19
    rw [HK.out.2] at c21
    clear hm
    have LOOK : Hid (∀ r, Pure.look E D = r ↔ Pure.look E D = r) := fun _ => Iff.rfl
    have e1 : D.ins.toNat = k := by rw [HK.out.1]; rfl
    have E1 := hide e1
    clear e1 LOOK
    have hposD : Hid (D.pos < E.s.size) := by show D.pos < _; rw [HR.out.2.2.2]; exact PC.out
    have A1 := M2.out.1.set 18 (.int .i64 (D.steps + 1)) E rfl (D := { D with steps := D.steps + 1 }) rfl
    have A2 := hide (A1.set 19 (.int .i64 (k + 1)) E rfl (D := { D with steps := D.steps + 1, ins := D.ins + 1 }) (by rw [HK.out.1]; rfl))
    have G2 := hide (grown_set (grown_set M2.out.2 18 (.int .i64 (D.steps + 1))) 19 (.int .i64 (k + 1)))
    clear A1
    by_cases o4 : x.op = 4
    · have t1 : 0 ≤ x.to ∧ x.to < E.p.code.length := by omega
      have HL : Hid (Pure.look E D = .go { D with steps := D.steps + 1, ins := x.to }) := by
        show _ = _
        unfold Pure.look
        rw [E1.out, HX.out]
        simp [o4]
      rw [o4] at i0
      clear ok nx
      go_wp2
      obtain ⟨kk, hkk⟩ := SeekInv.next GD.out HR.out.1 HR.out.2.1 HR.out.2.2.1 HR.out.2.2.2 hposD.out HL.out (A2.out.set 19 (.int .i64 x.to) E rfl rfl) (grown_set G2.out 19 (.int .i64 x.to))
      go_roundg kk
      case measure => exact hkk.1
      case rel => exact hkk.2
    by_cases o5 : x.op = 5
    · have HL : Hid (Pure.look E D = .stop { D with steps := D.steps + 1, ins := D.ins + 1 } 0) := by
        show _ = _
        unfold Pure.look
        rw [E1.out, HX.out]
        simp [o5]
      rw [o5] at i0
      clear ok nx
      go_wp2
      go_ret2
      exact ⟨D, HR.out.1, HR.out.2.2.1, HR.out.2.2.2, G2.out, .inr ⟨_, _, rfl, HL.out, A2.out⟩⟩
    by_cases o1 : x.op = 1
    · rw [o1] at i0
      have nn := nx (by omega)
      clear nx
      by_cases hl0 : 0 < lk
      · have HL : Hid (Pure.look E D = .go { D with steps := D.steps + 1, ins := D.ins + 1, rule := x.a, marked := D.looked }) := by
          show _ = _
          unfold Pure.look
          rw [E1.out, HX.out, HK.out.2]
          simp [o1, hl0]
        have hl1 : (0 : Int) < (lk : Int) := by omega
        clear ok
        go_wp2
        obtain ⟨kk, hkk⟩ := SeekInv.next GD.out HR.out.1 HR.out.2.1 HR.out.2.2.1 HR.out.2.2.2 hposD.out HL.out ((A2.out.set 22 (.int .i64 x.a) E rfl (D := { D with steps := D.steps + 1, ins := D.ins + 1, rule := x.a }) rfl).set 23 (.int .i64 lk) E rfl (by rw [HK.out.2]; rfl)) (grown_set (grown_set G2.out 22 (.int .i64 x.a)) 23 (.int .i64 lk))
        go_roundg kk
        case measure => exact hkk.1
        case rel => exact hkk.2
      · have hz : lk = 0 := by omega
        have HL : Hid (Pure.look E D = .go { D with steps := D.steps + 1, ins := D.ins + 1 }) := by
          show _ = _
          unfold Pure.look
          rw [E1.out, HX.out, HK.out.2]
          simp [o1, hz]
        subst hz
        clear ok
        go_wp2
        obtain ⟨kk, hkk⟩ := SeekInv.next GD.out HR.out.1 HR.out.2.1 HR.out.2.2.1 HR.out.2.2.2 hposD.out HL.out A2.out G2.out
        go_roundg kk
        case measure => exact hkk.1
        case rel => exact hkk.2
    by_cases o3 : x.op = 3
    · rw [o3] at i0
      have nn := nx (by omega)
      have t1 : 0 ≤ x.to ∧ x.to < E.p.code.length := by omega
      clear nx ok
      by_cases ha : x.a ≤ D.c
      · by_cases hb : D.c ≤ x.b
        · have HL : Hid (Pure.look E D = .go { D with steps := D.steps + 1, ins := x.to }) := by
            show _ = _
            unfold Pure.look
            rw [E1.out, HX.out]
            simp [o3, ha, hb]
          go_wp2_with fail
          go_quiet (fail)
          go_wp2
          obtain ⟨kk, hkk⟩ := SeekInv.next GD.out HR.out.1 HR.out.2.1 HR.out.2.2.1 HR.out.2.2.2 hposD.out HL.out ((A2.out.set 19 (.int .i64 x.to) E rfl rfl).drewN nq) (grown_drewN (grown_set G2.out 19 (.int .i64 x.to)) nq)
          go_roundg kk
          case measure => exact hkk.1
          case rel => exact hkk.2
        · have hb' : decide (D.c ≤ x.b) = false := by simpa using hb
          have HL : Hid (Pure.look E D = .go { D with steps := D.steps + 1, ins := D.ins + 1 }) := by
            show _ = _
            unfold Pure.look
            rw [E1.out, HX.out]
            simp [o3, hb]
          go_wp2_with fail
          go_quiet (fail)
          go_wp2
          obtain ⟨kk, hkk⟩ := SeekInv.next GD.out HR.out.1 HR.out.2.1 HR.out.2.2.1 HR.out.2.2.2 hposD.out HL.out (A2.out.drewN nq) (grown_drewN G2.out nq)
          go_roundg kk
          case measure => exact hkk.1
          case rel => exact hkk.2
      · have ha' : decide (x.a ≤ D.c) = false := by simpa using ha
        have HL : Hid (Pure.look E D = .go { D with steps := D.steps + 1, ins := D.ins + 1 }) := by
          show _ = _
          unfold Pure.look
          rw [E1.out, HX.out]
          simp [o3, ha]
        go_wp2_with fail
        go_quiet (fail)
        go_wp2
        obtain ⟨kk, hkk⟩ := SeekInv.next GD.out HR.out.1 HR.out.2.1 HR.out.2.2.1 HR.out.2.2.2 hposD.out HL.out (A2.out.drewN nq) (grown_drewN G2.out nq)
        go_roundg kk
        case measure => exact hkk.1
        case rel => exact hkk.2
    have o2 : x.op = 2 := by omega
    rw [o2] at i0
    have nn := nx (by omega)
    clear nx ok
    have PP := HR.out.2.2.2
    by_cases sp : rest.size ≤ lk
    · have sp1 : (rest.size : Int) ≤ (lk : Int) := by omega
      have sp2 : (E.s.size : Int) ≤ D.pos + D.looked := by rw [HK.out.2, PP]; have := HSZ.out; omega
      have SP := hide sp2
      clear sp2 PP
      cases hE : E.ended
      · rw [hE] at c25
        have HL : Hid (Pure.look E D = .wait) := by
          show _ = _
          unfold Pure.look
          rw [E1.out, HX.out]
          simp [o2, hE, SP.out]
        go_wp2
        go_ret2
        exact ⟨D, HR.out.1, HR.out.2.2.1, HR.out.2.2.2, M2.out.2, .inl ⟨rfl, HL.out, M2.out.1⟩⟩
      · rw [hE] at c25
        have HL : Hid (Pure.look E D = .stop { D with steps := D.steps + 1, ins := D.ins + 1 } 0) := by
          show _ = _
          unfold Pure.look
          rw [E1.out, HX.out]
          simp [o2, hE, SP.out]
        go_wp2
        go_ret2
        exact ⟨D, HR.out.1, HR.out.2.2.1, HR.out.2.2.2, G2.out, .inr ⟨_, _, rfl, HL.out, A2.out⟩⟩
    · have sp1 : decide ((rest.size : Int) ≤ (lk : Int)) = false := by simp; omega
      have sp2 : ¬ (E.s.size : Int) ≤ D.pos + D.looked := by rw [HK.out.2, PP]; have := HSZ.out; omega
      have SP := hide sp2
      have sp3 : (lk : Int) < (rest.size : Int) := by omega
      have x0 := fun w => idx_str rest (lk : Int) lk rfl (by omega) w
      have bx := BT.out lk (by have := HSZ.out; omega)
      rw [bx] at x0
      have bb := bt_bd E.s (C.pos.toNat + lk)
      have HB : Hid (bt E.s (D.pos + D.looked).toNat = bt E.s (C.pos.toNat + lk)) := by
        show _ = _
        rw [HK.out.2, PP]
        congr 1
        omega
      clear sp2 PP sp bx
      by_cases hm : E.most ≤ lk
      · have HL : Hid (Pure.look E D = .stop { D with steps := D.steps + 1, ins := D.ins + 1 } 5) := by
          show _ = _
          have h1 := SP.out
          have h2 : E.most ≤ D.looked := by rw [HK.out.2]; exact hm
          unfold Pure.look
          rw [E1.out, HX.out]
          simp only
          rw [if_neg o1, if_pos o2, if_neg h1, if_pos h2]
        cases hE : E.ended
        all_goals
          rw [hE] at c25
          go_wp2_with fail
          go_quiet (fail)
          go_wp2
          go_ret2
          exact ⟨D, HR.out.1, HR.out.2.2.1, HR.out.2.2.2, grown_drewN G2.out nq, .inr ⟨_, _, rfl, HL.out, A2.out.drewN nq⟩⟩
      · have HL : Hid (Pure.look E D = .go { D with steps := D.steps + 1, ins := D.ins + 1, c := bt E.s (C.pos.toNat + lk), looked := D.looked + 1 }) := by
          show _ = _
          have h1 := SP.out
          have h2 : ¬ E.most ≤ D.looked := by rw [HK.out.2]; exact hm
          unfold Pure.look
          rw [E1.out, HX.out, ← HB.out]
          simp only
          rw [if_neg o1, if_pos o2, if_neg h1, if_neg h2]
        have hm1 : decide (E.most ≤ (lk : Int)) = false := by simpa using hm
        clear HB SP hm
        generalize bt E.s (C.pos.toNat + lk) = y at *
        have A3 := hide (A2.out.set 20 (.int .i64 y) E rfl (D := { D with steps := D.steps + 1, ins := D.ins + 1, c := y }) rfl)
        have A4 := hide (A3.out.set 21 (.int .i64 (lk + 1)) E rfl (D := { D with steps := D.steps + 1, ins := D.ins + 1, c := y, looked := D.looked + 1 }) (by rw [HK.out.2]; rfl))
        have G4 := hide (grown_set (grown_set G2.out 20 (.int .i64 y)) 21 (.int .i64 (lk + 1)))
        cases hE : E.ended
        all_goals
          rw [hE] at c25
          go_wp2_with fail
          go_quiet (fail)
          go_wp2
          obtain ⟨kk, hkk⟩ := SeekInv.next GD.out HR.out.1 HR.out.2.1 HR.out.2.2.1 HR.out.2.2.2 hposD.out HL.out (A4.out.drewN nq) (grown_drewN G4.out nq)
          go_roundg kk
          case measure => exact hkk.1
          case rel => exact hkk.2

end Go.Proofs.Ytmccnmgaoppogab

namespace Go.Proofs.Ytmccnmgaoppogab
open Go.RowKit

def tokCells (l : List Pure.Tok) : List Value := l.flatMap (fun t => [.int .i64 t.rule, .int .i64 t.pos, .int .i64 t.len, .int .i64 t.line, .int .i64 t.col])
theorem tokCells_snoc (l : List Pure.Tok) (t : Pure.Tok) : tokCells (l ++ [t]) = tokCells l ++ [.int .i64 t.rule, .int .i64 t.pos, .int .i64 t.len, .int .i64 t.line, .int .i64 t.col] := by
  simp [tokCells]

theorem Try.info38 : (Try.prog.info? 38).map (fun i => (i.zero, i.size, i.bytes)) = some (some (.agg #[.int .i64 0, .int .i64 0, .int .i64 0, .int .i64 0, .int .i64 0]), 5, 40) := by kernel_rfl

def heldOf (E : Pure.Env) (D : Pure.Cfg) : ByteArray := if D.err ≠ 0 then ⟨#[]⟩ else E.s.extract D.pos.toNat E.s.size

/-- a scanner stands there, and holds what it holds -/
structure Scn (w : World) (g : Nat) (E : Pure.Env) (D : Pure.Cfg) (f : Nat → Int) (ve vr vc vh : Value) : Prop where
  m : Mach w g E ve vr vc vh D D.err
  h : ByteRow w vh (heldOf E D)
  good : Pure.Good E f
  sta : Pure.Sta E f D

def RetAdv (f : Nat → Int) (g : Nat) (E : Pure.Env) (ve vr vc : Value) (C : Pure.Cfg) (w : World) (e : Ending) (w' : World) : Prop :=
  ∃ D T vt vh, Pure.Runs E C D ∧ D.toks = C.toks ++ T ∧ e = .returned (.tuple #[vt, .int .i64 D.err]) ∧ w'.ownsRow w.heap.size 38 5 vt T.length (tokCells T) ∧ Scn w' g E D f ve vr vc vh ∧ w.grownBy w' (some g)

structure AdvInv (f : Nat → Int) (g : Nat) (E : Pure.Env) (ve vr vc vh : Value) (C : Pure.Cfg) (w : World) (D : Pure.Cfg) (T : List Pure.Tok) (vt : Value) (wr : World) : Prop where
  r : Pure.Rch E C D
  sta : Pure.Sta E f D
  err : D.err = 0
  toks : D.toks = C.toks ++ T
  own : wr.ownsRow w.heap.size 38 5 vt T.length (tokCells T)
  m : Mach wr g E ve vr vc vh D 0
  gr : w.grownBy wr (some g)

theorem conv_bytes (w : World) (s : ByteArray) (hs : s.size ≤ 9223372036854775807) : ∃ cap w', (convert 9 50 (.string s)).run Try.prog w = .ok (.slice (some ⟨w.heap.size, 0, none⟩) s.size cap) w' ∧ Below w.heap.size w w' ∧ ByteRow w' (.slice (some ⟨w.heap.size, 0, none⟩) s.size cap) s := by
  refine ⟨_, _, Lib.run_convert_string_bytes w 9 50 5 s Try.underlying9 Try.underlying50 Try.underlying5, ⟨rfl, rfl, rfl, by rw [Lib.bytesWorld_size]; omega, fun k hk => Lib.bytesWorld_at_old w _ s k hk⟩, .inr ⟨w.heap.size, _, _, _, rfl, grownCap_ge _ _ _ _, grownCap_le_maxLen _ _ _ _ (by unfold maxLen; exact hs), Lib.bytesWorld_at_new w _ s, fun j hj => ?_⟩⟩
  have := Lib.bytesWorld_cell w 5 s j hj
  simp only [World.cell?, Lib.bytesWorld_at_new] at this
  simpa [bt] using this

theorem Pure.Rch.quiet {E : Pure.Env} {f : Nat → Int} (g : Pure.Good E f) {C D : Pure.Cfg} (r : Pure.Rch E C D) (h : Pure.Sta E f C) : C.pos ≤ D.pos ∧ (D.pos = C.pos → D.err = 0 → D.toks = C.toks) := by
  induction r with
  | refl => exact ⟨Int.le_refl _, fun _ _ => rfl⟩
  | @step G F r1 hm ih =>
    have hG := r1.inv g h
    unfold Pure.mic at hm
    split at hm
    · cases hm
    · rename_i hc
      have he : G.err = 0 := by
        by_cases e : G.err = 0
        · exact e
        · exact absurd (.inl e) hc
      cases hl : Pure.look E G with
      | wait => rw [hl] at hm; cases hm
      | go F' =>
        rw [hl] at hm
        cases hm
        have q := Pure.look_go g hG he hl
        exact ⟨by rw [q.2.2.1]; exact ih.1, fun hp _ => by rw [q.2.2.2.2]; exact ih.2 (by rw [← q.2.2.1]; exact hp) he⟩
      | stop F' e =>
        rw [hl] at hm
        cases hm
        have q := Pure.look_stop g hG he hl
        unfold Pure.take
        split
        · refine ⟨by show C.pos ≤ F'.pos; rw [q.2.1]; exact ih.1, fun _ hz => ?_⟩
          exact absurd hz (by assumption)
        · split
          · refine ⟨by show C.pos ≤ F'.pos; rw [q.2.1]; exact ih.1, fun _ hz => ?_⟩
            exact absurd hz (by assumption)
          · rename_i hne hw
            have t := Pure.took_inv g q.1 (by omega)
            have := ih.1
            exact ⟨by have := t.2.2.1; omega, fun hp _ => by have := t.2.2.1; omega⟩

theorem adv_eq {b s : ByteArray} {a : Nat} {q : Int × Int} : ∀ (n : Nat), (∀ i, i < n → bt b i = bt s (a + i)) → Pure.adv b 0 n q = Pure.adv s a n q
  | 0, _ => rfl
  | n + 1, h => by
    simp only [Pure.adv]
    rw [adv_eq n (fun i hi => h i (by omega)), Nat.zero_add, h n (by omega)]

theorem Mach.like {w : World} {g : Nat} {E : Pure.Env} {ve vr vc vh : Value} {C D : Pure.Cfg} {fault : Int} (m : Mach w g E ve vr vc vh C fault) (h : runCells ve vr vc vh E.most E.depth C E.ended fault = runCells ve vr vc vh E.most E.depth D E.ended fault) : Mach w g E ve vr vc vh D fault :=
  ⟨by rw [← h]; exact m.blk, m.l⟩

/-- what is carried through a round -/
structure Carry (g : Nat) (E : Pure.Env) (ve vr vc vh : Value) (w : World) (T : List Pure.Tok) (vt : Value) (F : Pure.Cfg) (W : World) : Prop where
  own : W.ownsRow w.heap.size 38 5 vt T.length (tokCells T)
  m : Mach W g E ve vr vc vh F 0
  gr : w.grownBy W (some g)
theorem Carry.on {g : Nat} {E : Pure.Env} {ve vr vc vh : Value} {w : World} {T : List Pure.Tok} {vt : Value} {F F' : Pure.Cfg} {W W' : World} (k : Carry g E ve vr vc vh w T vt F W) (hg : W.grownBy W' (some g)) (hm : Mach W' g E ve vr vc vh F' 0) : Carry g E ve vr vc vh w T vt F' W' :=
  ⟨own_apart k.own k.m.blk (by decide) hg, hm, Lib.grownBy_trans k.gr hg⟩
theorem Carry.below {g : Nat} {E : Pure.Env} {ve vr vc vh : Value} {w : World} {T : List Pure.Tok} {vt : Value} {F : Pure.Cfg} {W W' : World} (k : Carry g E ve vr vc vh w T vt F W) (hb : Below W.heap.size W W') : Carry g E ve vr vc vh w T vt F W' :=
  ⟨own_below k.own hb (Nat.le_refl _), k.m.below hb, grown_below k.gr hb⟩
theorem Carry.alloc {g : Nat} {E : Pure.Env} {ve vr vc vh : Value} {w : World} {T : List Pure.Tok} {vt : Value} {F : Pure.Cfg} {W : World} (k : Carry g E ve vr vc vh w T vt F W) (o : Obj) : Carry g E ve vr vc vh w T vt F (W.alloc o) :=
  k.below ((Below.refl _ _).alloc (Nat.le_refl _) o)
theorem Carry.drew {g : Nat} {E : Pure.Env} {ve vr vc vh : Value} {w : World} {T : List Pure.Tok} {vt : Value} {F : Pure.Cfg} {W : World} (k : Carry g E ve vr vc vh w T vt F W) : Carry g E ve vr vc vh w T vt F W.drew :=
  k.below ((Below.refl _ _).drew)
theorem Carry.drewN {g : Nat} {E : Pure.Env} {ve vr vc vh : Value} {w : World} {T : List Pure.Tok} {vt : Value} {F : Pure.Cfg} {W : World} (k : Carry g E ve vr vc vh w T vt F W) (n : Nat) : Carry g E ve vr vc vh w T vt F (W.drewN n) :=
  k.below (below_drewN (Below.refl _ _) n)

theorem far_blk {W W' : World} {base e size n g t : Nat} {v : Value} {xs ys : List Value} (h : W.ownsRow base e size v n xs) (hb : Blk W g t ys) (ht : t ≠ e) (hg : W.grownBy W' v.ownBlock) : Blk W' g t ys := by
  refine blk_grown hb hg ?_
  intro e1
  rcases h.2 with ⟨rfl, _⟩ | ⟨g', cap, cur, rfl, _, hgg, _⟩
  · simp [Value.ownBlock] at e1
  · simp only [Value.ownBlock, Option.some.injEq] at e1
    subst e1
    unfold Blk at hb
    rw [hgg] at hb
    simp at hb
    exact ht hb.2.symm

/-- a token more -/
theorem Carry.more {g : Nat} {E : Pure.Env} {ve vr vc vh : Value} {w : World} {T T' : List Pure.Tok} {vt vt' : Value} {F : Pure.Cfg} {W W' : World} (k : Carry g E ve vr vc vh w T vt F W) (hg : W.grownBy W' vt.ownBlock) (ho : W'.ownsRow w.heap.size 38 5 vt' T'.length (tokCells T')) : Carry g E ve vr vc vh w T' vt' F W' := by
  refine ⟨ho, ⟨far_blk k.own k.m.blk (by decide) hg, ⟨own_other k.m.l.e k.own (by decide) hg, own_other k.m.l.r k.own (by decide) hg, own_other k.m.l.c k.own (by decide) hg⟩⟩, ?_⟩
  have s1 := k.gr.size
  refine ⟨hg.1.trans k.gr.1, hg.2.trans k.gr.2, hg.3.trans k.gr.3, Nat.le_trans k.gr.size hg.size, fun j hj hne => ?_⟩
  rw [hg.block j (by omega) ?_]
  · exact k.gr.block j hj hne
  · intro e
    have := (World.ownsRow.lt k.own j e.symm).1
    omega

/-- the search begins anew, behind the token -/
theorem Carry.again {g : Nat} {E : Pure.Env} {ve vr vc vh : Value} {w : World} {T : List Pure.Tok} {vt : Value} {F : Pure.Cfg} {W : World} (k : Carry g E ve vr vc vh w T vt F W) (x : Int) :
    Carry g E ve vr vc vh w T vt { F with ins := x, c := 0, looked := 0, rule := 0, marked := 0 } (((((W.setCell ⟨g, 19, none⟩ (.int .i64 x)).setCell ⟨g, 20, none⟩ (.int .i64 0)).setCell ⟨g, 21, none⟩ (.int .i64 0)).setCell ⟨g, 22, none⟩ (.int .i64 0)).setCell ⟨g, 23, none⟩ (.int .i64 0)) := by
  have k1 := k.on (Lib.grownBy_setCell W g 19 (.int .i64 x)) (k.m.set 19 (.int .i64 x) E rfl (D := { F with ins := x }) rfl)
  have k2 := k1.on (Lib.grownBy_setCell _ g 20 (.int .i64 0)) (k1.m.set 20 (.int .i64 0) E rfl (D := { F with ins := x, c := 0 }) rfl)
  have k3 := k2.on (Lib.grownBy_setCell _ g 21 (.int .i64 0)) (k2.m.set 21 (.int .i64 0) E rfl (D := { F with ins := x, c := 0, looked := 0 }) rfl)
  have k4 := k3.on (Lib.grownBy_setCell _ g 22 (.int .i64 0)) (k3.m.set 22 (.int .i64 0) E rfl (D := { F with ins := x, c := 0, looked := 0, rule := 0 }) rfl)
  exact k4.on (Lib.grownBy_setCell _ g 23 (.int .i64 0)) (k4.m.set 23 (.int .i64 0) E rfl rfl)

/-- it waits, or there is nothing more: what is left is held -/
theorem adv_held {f : Nat → Int} {g : Nat} {E : Pure.Env} {ve vr vc vh : Value} {C F : Pure.Cfg} {w W W' : World} {T : List Pure.Tok} {vt : Value} {rest : ByteArray} {b cap : Nat} (gd : Pure.Good E f) (k : Carry g E ve vr vc vh w T vt F W) (hB : Below W.heap.size W W') (hby : ByteRow W' (.slice (some ⟨b, 0, none⟩) rest.size cap) rest)
    (hr : Pure.Runs E C F) (hst : Pure.Sta E f F) (he : F.err = 0) (ht : F.toks = C.toks ++ T) (hrest : E.s.extract F.pos.toNat E.s.size = rest) :
    RetAdv f g E ve vr vc C w (.returned (.tuple #[vt, .int .i64 0])) (W'.setCell ⟨g, 24, none⟩ (.slice (some ⟨b, 0, none⟩) rest.size cap)) := by
  have k' := k.below hB
  have hg := Lib.grownBy_setCell W' g 24 (.slice (some ⟨b, 0, none⟩) rest.size cap)
  refine ⟨F, T, vt, .slice (some ⟨b, 0, none⟩) rest.size cap, hr, ht, by rw [he], own_apart k'.own k'.m.blk (by decide) hg, ⟨?_, ?_, gd, hst⟩, Lib.grownBy_trans k'.gr hg⟩
  · rw [he]; exact k'.m.set 24 _ E rfl rfl
  · have e : heldOf E F = rest := by unfold heldOf; rw [if_neg (by omega)]; exact hrest
    rw [e]
    exact hby.on k'.m.blk (by decide) hg

/-- an error: nothing is held any more -/
theorem adv_fault {f : Nat → Int} {g : Nat} {E : Pure.Env} {ve vr vc vh : Value} {C D F : Pure.Cfg} {w W : World} {T : List Pure.Tok} {vt : Value} (gd : Pure.Good E f) (k : Carry g E ve vr vc vh w T vt F W) (e : Int) (he : e ≠ 0) (hr : Pure.Rch E C D) (hm : Pure.mic E D = some { F with err := e }) (hst : Pure.Sta E f { F with err := e }) (ht : F.toks = C.toks ++ T) :
    RetAdv f g E ve vr vc C w (.returned (.tuple #[vt, .int .i64 e])) ((W.setCell ⟨g, 26, none⟩ (.int .i64 e)).setCell ⟨g, 24, none⟩ (.slice none 0 0)) := by
  have hg1 := Lib.grownBy_setCell W g 26 (.int .i64 e)
  have m1 := k.m.set 26 (.int .i64 e) E rfl (D := { F with err := e }) (fault' := e) rfl
  have hg2 := Lib.grownBy_setCell (W.setCell ⟨g, 26, none⟩ (.int .i64 e)) g 24 (.slice none 0 0)
  refine ⟨{ F with err := e }, T, vt, .slice none 0 0, ⟨.step hr hm, Pure.mic_err he⟩, ht, rfl, own_apart (own_apart k.own k.m.blk (by decide) hg1) m1.blk (by decide) hg2, ⟨m1.set 24 _ E rfl rfl, ?_, gd, hst⟩, Lib.grownBy_trans (Lib.grownBy_trans k.gr hg1) hg2⟩
  have e' : heldOf E { F with err := e } = ⟨#[]⟩ := by unfold heldOf; exact if_pos he
  rw [e']
  exact .inl ⟨rfl, rfl⟩

set_option maxRecDepth 100000 in
set_option maxHeartbeats 4000000 in
theorem advance_any (f : Nat → Int) (g : Nat) (E : Pure.Env) (ve vr vc vh : Value) (C : Pure.Cfg) (w : World) (gd : Pure.Good E f) (h : Pure.Sta E f C) (he : C.err = 0) (hs : E.s.size ≤ 1099511627776) (m : Mach w g E ve vr vc vh C 0) :
    Calls Try.prog 58 #[.pointer (some ⟨g, 0, none⟩), .string (E.s.extract C.pos.toNat E.s.size)] w (RetAdv f g E ve vr vc C w) := by
  obtain ⟨⟨ge, ce, rfl, he1, he2⟩, ⟨gr, cr, rfl, hr1, hr2⟩, -⟩ := m.l.someE gd.right
  obtain ⟨i0, hi, hz0, hz1, hz2⟩ := info_parts Try.info38
  have GD := hide gd
  have H0 : Hid (AdvInv f g E _ _ vc vh C w C [] (.slice (some ⟨w.heap.size, 0, none⟩) 0 0) (w.alloc (.cells #[] 38))) := ⟨.refl _, h, he, by simp, World.ownsRow_made w #[] 0 (Nat.le_refl _) (Nat.zero_le _) rfl, m.alloc _, grown_alloc ⟨rfl, rfl, rfl, Nat.le_refl _, fun _ _ _ => rfl⟩ _⟩
  have glt := blk_lt m.blk
  have HS := hide hs
  clear h he m gd hs
  go_enter Try.func58, Try.ntmps58
  go_wp2_with fail
  go_loopg [1, 6] (E.s.size - C.pos.toNat) (fun gk rs tv wr => ∃ (D : Pure.Cfg) (T : List Pure.Tok) (vt : Value), rs = .string (E.s.extract D.pos.toNat E.s.size) ∧ vt = tv ∧ gk = E.s.size - D.pos.toNat ∧ AdvInv f g E (.slice (some ⟨ge, 0, none⟩) E.p.ents.length ce) (.slice (some ⟨gr, 0, none⟩) E.p.rules.length cr) vc vh C w D T vt wr)
  case atStart => exact ⟨C, [], _, rfl, rfl, rfl, H0.out⟩
  case round =>
    clear H0
    obtain ⟨D, T, vt, rfl, rfl, rfl, hI⟩ := hrel
    have HI := hide hI
    have hp0 := hI.sta.pos
    have hwi := hI.sta.within
    have hlk := hI.sta.looked
    have hpd : D.pos ≤ E.s.size := by omega
    have hrs : (E.s.extract D.pos.toNat E.s.size).size = E.s.size - D.pos.toNat := by simp
    have hge := hI.gr.size
    have K0 : Hid (Carry g E (.slice (some ⟨ge, 0, none⟩) E.p.ents.length ce) (.slice (some ⟨gr, 0, none⟩) E.p.rules.length cr) vc vh w T vt D wr) := ⟨hI.own, hI.m, hI.gr⟩
    clear hI
    by_cases hlt : D.pos < E.s.size
    · have d0 : (0 : Int) < ((E.s.extract D.pos.toNat E.s.size).size : Int) := by omega
      have SK := hide (fun W => seek_any f g E (.slice (some ⟨ge, 0, none⟩) E.p.ents.length ce) (.slice (some ⟨gr, 0, none⟩) E.p.rules.length cr) vc vh D W GD.out HI.out.sta HI.out.err hlt HS.out)
      have HRS : Hid ((E.s.extract D.pos.toNat E.s.size).size = E.s.size - D.pos.toNat) := hrs
      have BT : Hid (∀ n, D.pos.toNat + n < E.s.size → bt (E.s.extract D.pos.toNat E.s.size) n = bt E.s (D.pos.toNat + n)) := fun n hn => bt_extract E.s D.pos.toNat E.s.size n (Nat.le_refl _) hn
      have hRS : Hid (E.s.extract D.pos.toNat E.s.size = E.s.extract D.pos.toNat E.s.size) := rfl
      clear hrs hRS
      generalize hRE : E.s.extract D.pos.toNat E.s.size = rest at *
      have RE := hide hRE
      clear hRE
      go_wp2_with fail
      refine (SK.out _ K0.out.m).mono ?_
      clear SK
      rintro e w1 ⟨F, hr1, hF0, hFp, hg1, (⟨rfl, hlook, hm1⟩ | ⟨F', er, rfl, hlook, hm1⟩)⟩
      · have K1 := hide (K0.out.on hg1 hm1)
        have hst := hr1.inv GD.out HI.out.sta
        have FIN := hide (And.intro (show Pure.Runs E C F from ⟨HI.out.r.trans hr1, by unfold Pure.mic; rw [hlook]; split <;> rfl⟩) (And.intro hst (And.intro hF0 (And.intro (((hr1.quiet GD.out HI.out.sta).2 hFp hF0).trans HI.out.toks) (show E.s.extract F.pos.toNat E.s.size = rest by rw [hFp]; exact RE.out)))))
        obtain ⟨cap, w2, hcv, hB2, hby⟩ := conv_bytes w1 rest (by have := HRS.out; have := HS.out; omega)
        have m2 := K1.out.m.below hB2
        have c24 := m2.cell (j := 24) rfl
        have f24 := m2.frozen 24
        have HB := hide (And.intro hB2 hby)
        clear hr1 hF0 hFp hg1 hlook hm1 hst hB2 hby m2 K0 BT
        go_wp2
        go_ret2
        exact adv_held GD.out K1.out HB.out.1 HB.out.2 FIN.out.1 FIN.out.2.1 FIN.out.2.2.1 FIN.out.2.2.2.1 FIN.out.2.2.2.2
      · have hst0 := hr1.inv GD.out HI.out.sta
        have q := Pure.look_stop GD.out hst0 hF0 hlook
        have K1 := hide (K0.out.on hg1 hm1)
        have hmic : Pure.mic E F = some (Pure.take E F' er) := by unfold Pure.mic; rw [if_neg (by omega), hlook]
        have htk : F'.toks = C.toks ++ T := q.2.2.2.2.2.trans (((hr1.quiet GD.out HI.out.sta).2 hFp hF0).trans HI.out.toks)
        have HQ := hide (And.intro q (And.intro (HI.out.r.trans hr1) (And.intro hmic htk)))
        have FP : Hid (F'.pos = D.pos) := q.2.1.trans hFp
        have c24 := K1.out.m.cell (j := 24) rfl
        have f24 := K1.out.m.frozen 24
        have c26 := K1.out.m.cell (j := 26) rfl
        have f26 := K1.out.m.frozen 26
        rcases q.2.2.2.1 with h0 | h5
        · subst h0
          have hru := q.1.rule
          have JU := hide (fun W m => judge_any g E (.slice (some ⟨ge, 0, none⟩) E.p.ents.length ce) (.slice (some ⟨gr, 0, none⟩) E.p.rules.length cr) vc vh F' 0 W m GD.out.right hru)
          have HW := hide (Pure.wrong_bd E.p E.depth F')
          clear q hr1 hF0 hlook hm1 hst0 hmic htk K0 hg1 hFp
          go_wp2_with fail
          refine (JU.out _ K1.out.m).mono ?_
          clear JU
          rintro e w2 ⟨rfl, nd, rfl⟩
          have K2 := hide (K1.out.drewN nd)
          clear K1
          by_cases hw : Pure.wrong E.p E.depth F' = 0
          · rw [hw]
            have hmk := HQ.out.1.1.marked
            have hlk2 := HQ.out.1.1.looked
            have hwi2 := HQ.out.1.1.within
            have hmp : 1 ≤ F'.marked := by
              by_cases e0 : F'.marked = 0
              · unfold Pure.wrong at hw; rw [if_pos e0] at hw; cases hw
              · omega
            obtain ⟨n, hn⟩ := Int.eq_ofNat_of_zero_le hmk.1
            obtain ⟨k, hk⟩ := Int.eq_ofNat_of_zero_le hru.1
            have hkr : k < E.p.rules.length := by omega
            have hki : (k : Int) < (E.p.rules.length : Int) := by omega
            have hnr : n ≤ rest.size := by have := HRS.out; have := FP.out; omega
            have hni : (n : Int) ≤ (rest.size : Int) := by omega
            have hn1 : 1 ≤ n := by omega
            have TO := hide (fun W m => token_any g E (.slice (some ⟨ge, 0, none⟩) E.p.ents.length ce) (.slice (some ⟨gr, 0, none⟩) E.p.rules.length cr) vc vh F' 0 W m)
            rw [hn, hk] at TO
            have HN := hide (And.intro hn (And.intro hk hw))
            have w1' : Hid ((Pure.rg E.p.rules k).act = 2 → F'.dep < E.depth) := fun ha => by
              have hw1 := hw
              unfold Pure.wrong at hw1
              rw [if_neg (by omega), hk, Int.toNat_natCast] at hw1
              by_cases q2 : E.depth ≤ F'.dep
              · rw [if_pos ⟨ha, q2⟩] at hw1; cases hw1
              · omega
            have w2' : Hid ((Pure.rg E.p.rules k).act = 3 → 0 < F'.dep) := fun ha => by
              have hw1 := hw
              unfold Pure.wrong at hw1
              rw [if_neg (by omega), hk, Int.toNat_natCast, if_neg (by omega)] at hw1
              have := HQ.out.1.1.dep
              by_cases q2 : F'.dep = 0
              · rw [if_pos ⟨ha, q2⟩] at hw1; cases hw1
              · omega
            clear hw hmk hlk2 hwi2 hmp hn hk hru HW c24 f24 c26 f26
            go_wp2_with fail
            refine (TO.out _ K2.out.m).mono ?_
            clear TO
            rintro e w3 ⟨rfl, hB3⟩
            have K3 := hide (K2.out.below hB3)
            clear K2 hB3
            have hvt : Hid (∀ j, vt.ownBlock = some j → j < w3.heap.size) := fun j hj => (World.ownsRow.lt K3.out.own j hj).2
            have K4 := hide (K3.out.alloc (.cells #[.int .i64 k, .int .i64 F'.pos, .int .i64 n, .int .i64 F'.line, .int .i64 F'.col] 38))
            have KT : Hid (Blk (w3.alloc (.cells #[.int .i64 k, .int .i64 F'.pos, .int .i64 n, .int .i64 F'.line, .int .i64 F'.col] 38)) w3.heap.size 38 [.int .i64 k, .int .i64 F'.pos, .int .i64 n, .int .i64 F'.line, .int .i64 F'.col]) := heap_alloc_new _ _
            clear K3
            go_wp2_with fail
            generalize w3.alloc (.cells #[.int .i64 k, .int .i64 F'.pos, .int .i64 n, .int .i64 F'.line, .int .i64 F'.col] 38) = W4 at *
            generalize w3.heap.size = gt at *
            have c1 := K4.out.m.cell (j := 1) rfl
            have t0 := blk_cell (j := 0) KT.out rfl
            have q := own_rule K4.out.m.l.r hkr
            have q0 := q.1
            have q1 := q.2.1
            have q2 := q.2.2
            have glt4 := blk_lt K4.out.m.blk
            have tlt4 := blk_lt KT.out
            have rlt4 := (own_base K4.out.m.l.r).2
            have n1 : W4.heap.size ≠ g := by omega
            have n2 : W4.heap.size ≠ gt := by omega
            have n3 : W4.heap.size ≠ gr := by omega
            have n1' : g ≠ W4.heap.size := by omega
            have n2' : gt ≠ W4.heap.size := by omega
            have n3' : gr ≠ W4.heap.size := by omega
            have ok := GD.out.right.2.1.2 k hkr
            have ogt : Hid (gt ≠ g) := fun e => by
              have b1 := KT.out
              have b2 := K4.out.m.blk
              rw [e] at b1
              unfold Blk at b1 b2
              rw [b1] at b2
              simp at b2
            clear q
            have RX : Hid (Pure.rg E.p.rules k = Pure.rg E.p.rules k) := rfl
            clear RX
            generalize hR : Pure.rg E.p.rules k = r at *
            have HR := hide hR
            clear hR
            go_region_held3 (fun w' => w'.cell? ⟨g, 1, none⟩ = some (.slice (some ⟨gr, 0, none⟩) E.p.rules.length cr) ∧ w'.cell? ⟨gt, 0, none⟩ = some (.int .i64 k) ∧ w'.cell? ⟨gr, k * 3, none⟩ = some (.int .i64 r.emit) ∧ w'.cell? ⟨gr, k * 3 + 1, none⟩ = some (.int .i64 r.act) ∧ w'.cell? ⟨gr, k * 3 + 2, none⟩ = some (.int .i64 r.mode)) (go_keep) (fail)
            rename_i hh
            clear hh c1 t0 q0 q1 q2 n1 n2 n3 n1' n2' n3' rlt4 hr1 hr2 he1 he2
            have K5 := hide (K4.out.alloc (.cells #[.int .i64 r.emit, .int .i64 r.act, .int .i64 r.mode] 60)).drew
            have KR : Hid (Blk (W4.alloc (.cells #[.int .i64 r.emit, .int .i64 r.act, .int .i64 r.mode] 60)).drew W4.heap.size 60 [.int .i64 r.emit, .int .i64 r.act, .int .i64 r.mode]) := heap_alloc_new _ _
            have KT5 : Hid (Blk (W4.alloc (.cells #[.int .i64 r.emit, .int .i64 r.act, .int .i64 r.mode] 60)).drew gt 38 [.int .i64 k, .int .i64 F'.pos, .int .i64 n, .int .i64 F'.line, .int .i64 F'.col]) := blk_alloc KT.out _
            have ogr : Hid (W4.heap.size ≠ g) := by show _ ≠ _; omega
            clear K4 KT glt4 tlt4
            generalize (W4.alloc (.cells #[.int .i64 r.emit, .int .i64 r.act, .int .i64 r.mode] 60)).drew = W5 at *
            generalize W4.heap.size = gl at *
            have e0 := blk_cell (j := 0) KR.out rfl
            rcases ok.1 with hem | hem
            · rw [hem] at e0
              have HEM := hide hem
              clear hem
              have t2 := blk_cell (j := 2) KT5.out rfl
              have PS := hide (fun W m => pass_any g E (.slice (some ⟨ge, 0, none⟩) E.p.ents.length ce) (.slice (some ⟨gr, 0, none⟩) E.p.rules.length cr) vc vh F' 0 (rest.extract 0 n) W m (by have := FP.out; have := HS.out; omega) (by have := HQ.out.1.1.line; have := FP.out; have := HS.out; omega) (by have := HQ.out.1.1.col; have := FP.out; have := HS.out; omega) (by have := HS.out; have := HRS.out; simp; omega))
              go_wp2_with fail
              refine (PS.out _ K5.out.m).mono ?_
              clear PS t2
              rintro e w6 ⟨rfl, hm6, hg6⟩
              have K6 := hide (K5.out.on hg6 hm6)
              have KR6 := hide (blk_grown KR.out hg6 (fun e => ogr.out (by cases e; rfl)))
              have KT6 := hide (blk_grown KT5.out hg6 (fun e => ogt.out (by cases e; rfl)))
              clear K5 KR KT5 hm6 hg6
              have e0 := blk_cell (j := 0) KR6.out rfl
              have e1 := blk_cell (j := 1) KR6.out rfl
              have e2 := blk_cell (j := 2) KR6.out rfl
              have AC := hide (fun W m => act_any g E (.slice (some ⟨ge, 0, none⟩) E.p.ents.length ce) (.slice (some ⟨gr, 0, none⟩) E.p.rules.length cr) vc vh (passed (rest.extract 0 n) (rest.extract 0 n).size F') 0 r W m HQ.out.1.1.stk.1 (by have := HQ.out.1.1.dep; have := GD.out.depth; show 0 ≤ F'.dep ∧ F'.dep ≤ 8; omega) (fun ha => by have := w1'.out ha; have := GD.out.depth; show F'.dep < 8; omega) (fun ha => w2'.out ha))
              go_wp2_with fail
              refine (AC.out _ K6.out.m).mono ?_
              clear AC e0 e1 e2
              rintro e w7 ⟨rfl, hm7, hg7⟩
              have K7 := hide (K6.out.on hg7 hm7)
              have KT7 := hide (blk_grown KT6.out hg7 (fun e => ogt.out (by cases e; rfl)))
              clear K6 KR6 KT6 hm7 hg7
              have md : 0 ≤ Pure.newMode r F' ∧ Pure.newMode r F' < E.p.ents.length := by
                have z := (Pure.took_inv GD.out HQ.out.1.1 HN.out.2.2).1.mode
                have e5 : (Pure.took E.p E.s F').mode = Pure.newMode (Pure.rg E.p.rules F'.rule.toNat) F' := rfl
                rw [e5, HN.out.2.1, Int.toNat_natCast, HR.out] at z
                exact z
              obtain ⟨mm, hmm⟩ := Int.eq_ofNat_of_zero_le md.1
              have MM := hide hmm
              have c0 := K7.out.m.cell (j := 0) rfl
              have c8 := K7.out.m.cell (j := 8) (u := .int .i64 mm) (by rw [← hmm]; rfl)
              have c19 := K7.out.m.cell (j := 19) rfl
              have c20 := K7.out.m.cell (j := 20) rfl
              have c21 := K7.out.m.cell (j := 21) rfl
              have c22 := K7.out.m.cell (j := 22) rfl
              have c23 := K7.out.m.cell (j := 23) rfl
              have f19 := K7.out.m.frozen 19
              have f20 := K7.out.m.frozen 20
              have f21 := K7.out.m.frozen 21
              have f22 := K7.out.m.frozen 22
              have f23 := K7.out.m.frozen 23
              have hml : mm < E.p.ents.length := by omega
              have hmi : (mm : Int) < (E.p.ents.length : Int) := by omega
              have qe := own_int K7.out.m.l.e hml
              have far := own_far K7.out.m.l.e K7.out.m.blk (by decide)
              have far' : g ≠ ge := fun e => far e.symm
              have K8 := hide (K7.out.again (Pure.ig E.p.ents mm))
              have T1 : Hid (_ ∧ _ ∧ _) := And.intro (K8.out.drew.m.cell (j := 0) rfl) (And.intro (K8.out.drew.m.cell (j := 8) (u := .int .i64 mm) (by rw [← hmm]; rfl)) (own_int K8.out.drew.m.l.e hml))
              have t2 := blk_cell (j := 2) KT7.out rfl
              have ogt' := ogt.out
              have ogt'' : g ≠ gt := fun e => ogt' e.symm
              have hb : (rest.extract 0 n).size = n := by simp; omega
              have RS2 : Hid (rest.extract n rest.size = E.s.extract (F'.pos + n).toNat E.s.size) := by
                show _ = _
                have h1 := HRS.out
                have h2 := FP.out
                rw [h1, ← RE.out]
                apply ByteArray.ext
                simp
                congr 1
                all_goals omega
              have TOOK : Hid (runCells (.slice (some ⟨ge, 0, none⟩) E.p.ents.length ce) (.slice (some ⟨gr, 0, none⟩) E.p.rules.length cr) vc vh E.most E.depth { acted r (passed (rest.extract 0 n) (rest.extract 0 n).size F') with ins := Pure.ig E.p.ents mm, c := 0, looked := 0, rule := 0, marked := 0 } E.ended 0 = runCells (.slice (some ⟨ge, 0, none⟩) E.p.ents.length ce) (.slice (some ⟨gr, 0, none⟩) E.p.rules.length cr) vc vh E.most E.depth (Pure.took E.p E.s F') E.ended 0) := by
                show _ = _
                have ha : Pure.adv (rest.extract 0 n) 0 n (F'.line, F'.col) = Pure.adv E.s F'.pos.toNat n (F'.line, F'.col) := adv_eq n (fun i hi => by
                  have h1 := HRS.out
                  have h2 := FP.out
                  rw [bt_extract rest 0 n i (by omega) (by omega), Nat.zero_add, BT.out i (by omega), h2])
                unfold Pure.took passed acted
                simp only
                rw [hb, ha, HN.out.1, HN.out.2.1, Int.toNat_natCast, Int.toNat_natCast, HR.out]
                have e6 : Pure.newMode r F' = mm := hmm
                have e7 : (Pure.newMode r F').toNat = mm := by rw [e6]; rfl
                unfold runCells
                simp only [e7]
                rfl
              have KT8 := hide (blk_grown KT7.out (grown_drew (grown_set (grown_set (grown_set (grown_set (grown_set (World.grownBy.refl w7 (some g)) 19 (.int .i64 (Pure.ig E.p.ents mm))) 20 (.int .i64 0)) 21 (.int .i64 0)) 22 (.int .i64 0)) 23 (.int .i64 0))) (fun e => ogt.out (by cases e; rfl)))
              have K9 := hide K8.out.drew
              clear md hmm far hb K8
              go_wp2_with fail
              generalize hEN : Pure.ig E.p.ents mm = en at *
              go_region_held3 (fun w' => w'.cell? ⟨g, 0, none⟩ = some (.slice (some ⟨ge, 0, none⟩) E.p.ents.length ce) ∧ w'.cell? ⟨g, 8, none⟩ = some (.int .i64 mm) ∧ w'.cell? ⟨ge, mm, none⟩ = some (.int .i64 en)) (first | (go_keep; done) | exact T1.out) (fail)
              rename_i hh
              clear hh T1 c0 c8 c19 c20 c21 c22 c23 f19 f20 f21 f22 f23 qe far' t2 ogt' ogt'' K7 KT7 hEN
              generalize (((((w7.setCell ⟨g, 19, none⟩ (.int .i64 en)).setCell ⟨g, 20, none⟩ (.int .i64 0)).setCell ⟨g, 21, none⟩ (.int .i64 0)).setCell ⟨g, 22, none⟩ (.int .i64 0)).setCell ⟨g, 23, none⟩ (.int .i64 0)).drew = W8 at *
              have t2 := blk_cell (j := 2) KT8.out rfl
              go_wp2
              go_roundg (E.s.size - (F'.pos + n).toNat)
              case measure => have := FP.out; omega
              case rel =>
                have TK : Pure.take E F' 0 = Pure.took E.p E.s F' := by unfold Pure.take; rw [if_neg (by omega), if_neg (by have := HN.out.2.2; omega)]
                have ep : (Pure.took E.p E.s F').pos = F'.pos + n := by show F'.pos + F'.marked = _; rw [HN.out.1]
                have ti := Pure.took_inv GD.out HQ.out.1.1 HN.out.2.2
                refine ⟨Pure.took E.p E.s F', T, _, by rw [ep]; exact congrArg Value.string RS2.out, rfl, by rw [ep], .step HQ.out.2.1 (by rw [HQ.out.2.2.1, TK]), ti.1, ti.2.1, ?_, K9.out.own, K9.out.m.like TOOK.out, K9.out.gr⟩
                show (if (Pure.rg E.p.rules F'.rule.toNat).emit = 1 then F'.toks ++ [⟨F'.rule, F'.pos, F'.marked, F'.line, F'.col⟩] else F'.toks) = _
                rw [HN.out.2.1, Int.toNat_natCast, HR.out, HEM.out, HN.out.1, HQ.out.2.2.2]
                simp
            · rw [hem] at e0
              have HEM := hide hem
              clear hem
              have hTl : (T.length : Int) ≤ E.s.size := by
                have h1 := HI.out.sta.toks
                have h2 := HI.out.toks
                rw [h2, List.length_append] at h1
                omega
              have hTl2 : T.length ≤ 1099511627776 := by have := HS.out; omega
              have u0 := blk_cell (j := 0) KT5.out rfl
              have u1 := blk_cell (j := 1) KT5.out rfl
              have u2 := blk_cell (j := 2) KT5.out rfl
              have u3 := blk_cell (j := 3) KT5.out rfl
              have u4' := blk_cell (j := 4) KT5.out rfl
              have tlt := blk_lt KT5.out
              go_wp2_with (at_builtin; refine wpList_append_own _ rfl (.tmp 56) (.tmp 58) 34 rfl w.heap.size 38 i0 (.agg #[.int .i64 0, .int .i64 0, .int .i64 0, .int .i64 0, .int .i64 0]) 5 40 Try.underlying34 hi hz0 hz1 hz2 rfl (by decide) vt T.length (tokCells T) rfl (World.ownsRow.alloc K5.out.own _) ⟨W5.heap.size, 0, none⟩ 1 1 [.int .i64 k, .int .i64 F'.pos, .int .i64 n, .int .i64 F'.line, .int .i64 F'.col] rfl rfl (cell_list3 rfl) (by intro u hu; simp at hu; rcases hu with rfl | rfl | rfl | rfl | rfl <;> rfl) (by unfold maxLen; omega) (by omega) (by have := K5.out.gr.size; simp; omega) ?_; intro v2 wa hown2 hgrow2 _; have t2 := blk_cell (j := 2) (blk_grown (blk_alloc KT5.out _) hgrow2 (fun e => by have := hvt.out _ e.symm; omega)) rfl)
              have Ka : Hid (Carry g E (.slice (some ⟨ge, 0, none⟩) E.p.ents.length ce) (.slice (some ⟨gr, 0, none⟩) E.p.rules.length cr) vc vh w (T ++ [⟨k, F'.pos, n, F'.line, F'.col⟩]) v2 F' wa) := (K5.out.alloc _).more hgrow2 (by rw [tokCells_snoc, List.length_append, List.length_singleton]; exact hown2)
              have KRa := hide (far_blk (K5.out.alloc _).own (blk_alloc KR.out _) (by decide) hgrow2)
              have KTa := hide (blk_grown (blk_alloc KT5.out _) hgrow2 (fun e => by have := hvt.out _ e.symm; omega))
              clear hown2 hgrow2 u0 u1 u2 u3 u4' K5 KR KT5
              have PS := hide (fun W m => pass_any g E (.slice (some ⟨ge, 0, none⟩) E.p.ents.length ce) (.slice (some ⟨gr, 0, none⟩) E.p.rules.length cr) vc vh F' 0 (rest.extract 0 n) W m (by have := FP.out; have := HS.out; omega) (by have := HQ.out.1.1.line; have := FP.out; have := HS.out; omega) (by have := HQ.out.1.1.col; have := FP.out; have := HS.out; omega) (by have := HS.out; have := HRS.out; simp; omega))
              refine (PS.out _ Ka.out.m).mono ?_
              clear PS t2
              rintro e w6 ⟨rfl, hm6, hg6⟩
              have K6 := hide (Ka.out.on hg6 hm6)
              have KR6 := hide (blk_grown KRa.out hg6 (fun e => ogr.out (by cases e; rfl)))
              have KT6 := hide (blk_grown KTa.out hg6 (fun e => ogt.out (by cases e; rfl)))
              clear Ka KRa KTa hm6 hg6
              have e0 := blk_cell (j := 0) KR6.out rfl
              have e1 := blk_cell (j := 1) KR6.out rfl
              have e2 := blk_cell (j := 2) KR6.out rfl
              have AC := hide (fun W m => act_any g E (.slice (some ⟨ge, 0, none⟩) E.p.ents.length ce) (.slice (some ⟨gr, 0, none⟩) E.p.rules.length cr) vc vh (passed (rest.extract 0 n) (rest.extract 0 n).size F') 0 r W m HQ.out.1.1.stk.1 (by have := HQ.out.1.1.dep; have := GD.out.depth; show 0 ≤ F'.dep ∧ F'.dep ≤ 8; omega) (fun ha => by have := w1'.out ha; have := GD.out.depth; show F'.dep < 8; omega) (fun ha => w2'.out ha))
              go_wp2_with fail
              refine (AC.out _ K6.out.m).mono ?_
              clear AC e0 e1 e2
              rintro e w7 ⟨rfl, hm7, hg7⟩
              have K7 := hide (K6.out.on hg7 hm7)
              have KT7 := hide (blk_grown KT6.out hg7 (fun e => ogt.out (by cases e; rfl)))
              clear K6 KR6 KT6 hm7 hg7
              have md : 0 ≤ Pure.newMode r F' ∧ Pure.newMode r F' < E.p.ents.length := by
                have z := (Pure.took_inv GD.out HQ.out.1.1 HN.out.2.2).1.mode
                have e5 : (Pure.took E.p E.s F').mode = Pure.newMode (Pure.rg E.p.rules F'.rule.toNat) F' := rfl
                rw [e5, HN.out.2.1, Int.toNat_natCast, HR.out] at z
                exact z
              obtain ⟨mm, hmm⟩ := Int.eq_ofNat_of_zero_le md.1
              have MM := hide hmm
              have c0 := K7.out.m.cell (j := 0) rfl
              have c8 := K7.out.m.cell (j := 8) (u := .int .i64 mm) (by rw [← hmm]; rfl)
              have c19 := K7.out.m.cell (j := 19) rfl
              have c20 := K7.out.m.cell (j := 20) rfl
              have c21 := K7.out.m.cell (j := 21) rfl
              have c22 := K7.out.m.cell (j := 22) rfl
              have c23 := K7.out.m.cell (j := 23) rfl
              have f19 := K7.out.m.frozen 19
              have f20 := K7.out.m.frozen 20
              have f21 := K7.out.m.frozen 21
              have f22 := K7.out.m.frozen 22
              have f23 := K7.out.m.frozen 23
              have hml : mm < E.p.ents.length := by omega
              have hmi : (mm : Int) < (E.p.ents.length : Int) := by omega
              have qe := own_int K7.out.m.l.e hml
              have far := own_far K7.out.m.l.e K7.out.m.blk (by decide)
              have far' : g ≠ ge := fun e => far e.symm
              have K8 := hide (K7.out.again (Pure.ig E.p.ents mm))
              have T1 : Hid (_ ∧ _ ∧ _) := And.intro (K8.out.drew.m.cell (j := 0) rfl) (And.intro (K8.out.drew.m.cell (j := 8) (u := .int .i64 mm) (by rw [← hmm]; rfl)) (own_int K8.out.drew.m.l.e hml))
              have t2 := blk_cell (j := 2) KT7.out rfl
              have ogt' := ogt.out
              have ogt'' : g ≠ gt := fun e => ogt' e.symm
              have hb : (rest.extract 0 n).size = n := by simp; omega
              have RS2 : Hid (rest.extract n rest.size = E.s.extract (F'.pos + n).toNat E.s.size) := by
                show _ = _
                have h1 := HRS.out
                have h2 := FP.out
                rw [h1, ← RE.out]
                apply ByteArray.ext
                simp
                congr 1
                all_goals omega
              have TOOK : Hid (runCells (.slice (some ⟨ge, 0, none⟩) E.p.ents.length ce) (.slice (some ⟨gr, 0, none⟩) E.p.rules.length cr) vc vh E.most E.depth { acted r (passed (rest.extract 0 n) (rest.extract 0 n).size F') with ins := Pure.ig E.p.ents mm, c := 0, looked := 0, rule := 0, marked := 0 } E.ended 0 = runCells (.slice (some ⟨ge, 0, none⟩) E.p.ents.length ce) (.slice (some ⟨gr, 0, none⟩) E.p.rules.length cr) vc vh E.most E.depth (Pure.took E.p E.s F') E.ended 0) := by
                show _ = _
                have ha : Pure.adv (rest.extract 0 n) 0 n (F'.line, F'.col) = Pure.adv E.s F'.pos.toNat n (F'.line, F'.col) := adv_eq n (fun i hi => by
                  have h1 := HRS.out
                  have h2 := FP.out
                  rw [bt_extract rest 0 n i (by omega) (by omega), Nat.zero_add, BT.out i (by omega), h2])
                unfold Pure.took passed acted
                simp only
                rw [hb, ha, HN.out.1, HN.out.2.1, Int.toNat_natCast, Int.toNat_natCast, HR.out]
                have e6 : Pure.newMode r F' = mm := hmm
                have e7 : (Pure.newMode r F').toNat = mm := by rw [e6]; rfl
                unfold runCells
                simp only [e7]
                rfl
              have KT8 := hide (blk_grown KT7.out (grown_drew (grown_set (grown_set (grown_set (grown_set (grown_set (World.grownBy.refl w7 (some g)) 19 (.int .i64 (Pure.ig E.p.ents mm))) 20 (.int .i64 0)) 21 (.int .i64 0)) 22 (.int .i64 0)) 23 (.int .i64 0))) (fun e => ogt.out (by cases e; rfl)))
              have K9 := hide K8.out.drew
              clear md hmm far hb K8
              go_wp2_with fail
              generalize hEN : Pure.ig E.p.ents mm = en at *
              go_region_held3 (fun w' => w'.cell? ⟨g, 0, none⟩ = some (.slice (some ⟨ge, 0, none⟩) E.p.ents.length ce) ∧ w'.cell? ⟨g, 8, none⟩ = some (.int .i64 mm) ∧ w'.cell? ⟨ge, mm, none⟩ = some (.int .i64 en)) (first | (go_keep; done) | exact T1.out) (fail)
              rename_i hh
              clear hh T1 c0 c8 c19 c20 c21 c22 c23 f19 f20 f21 f22 f23 qe far' t2 ogt' ogt'' K7 KT7 hEN
              generalize (((((w7.setCell ⟨g, 19, none⟩ (.int .i64 en)).setCell ⟨g, 20, none⟩ (.int .i64 0)).setCell ⟨g, 21, none⟩ (.int .i64 0)).setCell ⟨g, 22, none⟩ (.int .i64 0)).setCell ⟨g, 23, none⟩ (.int .i64 0)).drew = W8 at *
              have t2 := blk_cell (j := 2) KT8.out rfl
              go_wp2
              go_roundg (E.s.size - (F'.pos + n).toNat)
              case measure => have := FP.out; omega
              case rel =>
                have TK : Pure.take E F' 0 = Pure.took E.p E.s F' := by unfold Pure.take; rw [if_neg (by omega), if_neg (by have := HN.out.2.2; omega)]
                have ep : (Pure.took E.p E.s F').pos = F'.pos + n := by show F'.pos + F'.marked = _; rw [HN.out.1]
                have ti := Pure.took_inv GD.out HQ.out.1.1 HN.out.2.2
                refine ⟨Pure.took E.p E.s F', (T ++ [⟨k, F'.pos, n, F'.line, F'.col⟩]), _, by rw [ep]; exact congrArg Value.string RS2.out, rfl, by rw [ep], .step HQ.out.2.1 (by rw [HQ.out.2.2.1, TK]), ti.1, ti.2.1, ?_, K9.out.own, K9.out.m.like TOOK.out, K9.out.gr⟩
                show (if (Pure.rg E.p.rules F'.rule.toNat).emit = 1 then F'.toks ++ [⟨F'.rule, F'.pos, F'.marked, F'.line, F'.col⟩] else F'.toks) = _
                rw [HN.out.2.1, Int.toNat_natCast, HR.out, HEM.out, HN.out.1, HQ.out.2.2.2]
                simp
          · have hw' : (Pure.wrong E.p E.depth F' != 0) = true := by simpa using hw
            have TK : Hid (Pure.take E F' 0 = { F' with err := Pure.wrong E.p E.depth F' }) := by show _ = _; unfold Pure.take; rw [if_neg (by omega), if_pos hw]
            have ST := hide (HQ.out.1.1.toSta (f := f) (e := Pure.wrong E.p E.depth F') (by have := HW.out; omega))
            generalize Pure.wrong E.p E.depth F' = er at *
            go_wp2
            go_ret2
            exact adv_fault GD.out K2.out er hw HQ.out.2.1 (by rw [HQ.out.2.2.1, TK.out]) ST.out HQ.out.2.2.2
        · subst h5
          have TK : Hid (Pure.take E F' 5 = { F' with err := 5 }) := by show _ = _; unfold Pure.take; rw [if_pos (by omega)]
          have ST := hide (HQ.out.1.1.toSta (f := f) (e := 5) (by omega))
          clear q hr1 hF0 hlook hm1 hst0 hmic htk K0 hg1 hFp
          go_wp2
          go_ret2
          exact adv_fault GD.out K1.out 5 (by omega) HQ.out.2.1 (by rw [HQ.out.2.2.1, TK.out]) ST.out HQ.out.2.2.2
    · have hpe : D.pos = E.s.size := by omega
      have d0 : ((E.s.extract D.pos.toNat E.s.size).size : Int) = 0 := by omega
      have FIN := hide (And.intro (show Pure.Runs E C D from ⟨HI.out.r, by unfold Pure.mic; rw [if_pos (.inr (by omega))]⟩) (And.intro HI.out.sta (And.intro HI.out.err HI.out.toks)))
      obtain ⟨cap, w2, hcv, hB2, hby⟩ := conv_bytes wr (E.s.extract D.pos.toNat E.s.size) (by omega)
      have m2 := K0.out.m.below hB2
      have c24 := m2.cell (j := 24) rfl
      have f24 := m2.frozen 24
      have HB := hide (And.intro hB2 hby)
      clear hB2 hby m2
      generalize hRE : E.s.extract D.pos.toNat E.s.size = rest at *
      have RE := hide hRE
      clear hRE hpe hrs
      have d1 : decide ((0 : Int) < (rest.size : Int)) = false := decide_eq_false (by omega)
      have d2 : decide (0 < rest.size) = false := decide_eq_false (by omega)
      have d3 : ¬ (0 < rest.size) := by omega
      clear d0
      go_wp2
      go_ret2
      exact adv_held GD.out K0.out HB.out.1 HB.out.2 FIN.out.1 FIN.out.2.1 FIN.out.2.2.1 FIN.out.2.2.2 RE.out

end Go.Proofs.Ytmccnmgaoppogab

namespace Go.Proofs.Ytmccnmgaoppogab
open Go.RowKit

def noBytes : ByteArray := ⟨#[]⟩

/-- a scanner: where it stands; whether the input has ended is told by its block as long as there is no error -/
def Sc (w : World) (g : Nat) (E : Pure.Env) (D : Pure.Cfg) : Prop := ∃ f ve vr vc vh b, (D.err = 0 → b = E.ended) ∧ Scn w g { E with ended := b } D f ve vr vc vh

def RetFed (g : Nat) (E : Pure.Env) (C : Pure.Cfg) (w : World) (e : Ending) (w' : World) : Prop :=
  ∃ D T vt, Pure.Runs E C D ∧ D.toks = C.toks ++ T ∧ e = .returned (.tuple #[vt, .int .i64 D.err]) ∧ w'.ownsRow w.heap.size 38 5 vt T.length (tokCells T) ∧ Sc w' g E D ∧ w.grownBy w' (some g)

theorem Mach.env {w : World} {g : Nat} {E E' : Pure.Env} {ve vr vc vh : Value} {C : Pure.Cfg} {fault : Int} (m : Mach w g E ve vr vc vh C fault) (h1 : E'.p = E.p) (h2 : E'.most = E.most) (h3 : E'.depth = E.depth) (h4 : E'.ended = E.ended) : Mach w g E' ve vr vc vh C fault :=
  ⟨by rw [h2, h3, h4]; exact m.blk, by rw [h1]; exact m.l⟩

theorem extract_list (u : ByteArray) (a b : Nat) : (u.extract a b).data.toList = (u.data.toList.drop a).take (b - a) := by simp

theorem join_rest (s t : ByteArray) (a : Nat) (h : a ≤ s.size) : s.extract a s.size ++ t = (s ++ t).extract a (s ++ t).size := by
  apply ByteArray.ext
  apply Array.toList_inj.1
  have hl : s.data.toList.length = s.size := by simp
  have ht : t.data.toList.length = t.size := by simp
  have e1 : (s ++ t).size = s.size + t.size := by simp
  have e2 : (s ++ t).data.toList = s.data.toList ++ t.data.toList := by simp
  have e3 : (s.extract a s.size ++ t).data.toList = (s.data.toList.drop a).take (s.size - a) ++ t.data.toList := by simp
  have e4 : ((s ++ t).extract a (s ++ t).size).data.toList = ((s ++ t).data.toList.drop a).take ((s ++ t).size - a) := extract_list _ _ _
  rw [e3, e4, e2, e1, List.drop_append_of_le_length (by omega), List.take_of_length_le (by rw [List.length_drop]; omega), List.take_of_length_le (by rw [List.length_append, List.length_drop]; omega)]

theorem back_str (w : World) (v : Value) (s : ByteArray) (h : ByteRow w v s) : (convert 50 9 v).run Try.prog w = .ok (.string s) w := by
  rcases h with ⟨h0, rfl⟩ | ⟨b, cap, cs, fr, rfl, h2, h2', h3, h4⟩
  · have : s = ⟨#[]⟩ := by
      apply ByteArray.ext
      exact Array.eq_empty_of_size_eq_zero h0
    subst this
    rw [run_convert_bytes_string w 50 9 5 none 0 0 Try.underlying50 Try.underlying5 Try.underlying9]
    first | rfl | simp [Conv.bytesToString]
  · have hl : s.data.toList.length = s.size := by simp
    have := run_convert_bytes_back (P := Try.prog) w 50 9 5 ⟨b, 0, none⟩ cap s.data.toList Try.underlying50 Try.underlying5 Try.underlying9 (fun j hj => by
      have h5 := h4 j (by omega)
      have h6 : w.cell? ⟨b, j, none⟩ = cs[j]? := by simp [World.cell?, h3]
      have h7 : bt s j = ((s.data.toList[j]).toNat : Int) := by unfold bt; rw [List.getD_eq_getElem?_getD, List.getElem?_eq_getElem hj]; rfl
      rw [add_eq, Nat.zero_add, h6, h5, h7])
    rw [hl] at this
    simpa using this

set_option maxRecDepth 100000 in
set_option maxHeartbeats 1000000 in
theorem runFeed_any (g : Nat) (E : Pure.Env) (C : Pure.Cfg) (chunk : ByteArray) (w : World) (h : Sc w g E C) (hE : E.ended = false) (hs : E.s.size + chunk.size ≤ 1099511627776) :
    Calls Try.prog 36 #[.pointer (some ⟨g, 0, none⟩), .string chunk] w (RetFed g (E.on chunk false) C w) := by
  obtain ⟨f, ve, vr, vc, vh, b, hb, hS⟩ := h
  have HC := hide (closed_any g _ ve vr vc vh C C.err w hS.m)
  by_cases he : C.err = 0
  · have hb' := (hb he).trans hE
    subst hb'
    have hsz := hS.sta.within
    have hp := hS.sta.pos
    have hlk := hS.sta.looked
    obtain ⟨ah, ch, rfl, hh1, hh2⟩ := hS.h.form
    have c24 := hS.m.cell (j := 24) rfl
    have CV := back_str w _ _ hS.h
    have eH : heldOf { E with ended := false } C = E.s.extract C.pos.toNat E.s.size := by unfold heldOf; rw [if_neg (by omega)]
    rw [eH] at CV c24 hh1
    have EJ : Hid (E.s.extract C.pos.toNat E.s.size ++ chunk = (E.on chunk false).s.extract C.pos.toNat (E.on chunk false).s.size) := join_rest E.s chunk C.pos.toNat (by simp at hsz; omega)
    have AD : Hid (Calls Try.prog 58 #[.pointer (some ⟨g, 0, none⟩), .string (E.s.extract C.pos.toNat E.s.size ++ chunk)] w (RetAdv f g (E.on chunk false) ve vr vc C w)) := by
      show Calls _ _ _ _ _
      rw [EJ.out]
      have m1 := hS.m
      rw [he] at m1
      exact advance_any f g (E.on chunk false) ve vr vc _ C w (hS.good.on chunk false) (hS.sta.on chunk false) he (by rw [Pure.on_size]; exact hs) (m1.env rfl rfl rfl rfl)
    have e0 : shut false C.err = 0 := by simp [shut, he]
    rw [e0] at HC
    have hcat : (E.s.extract C.pos.toNat E.s.size).size + chunk.size ≤ 1099511627776 := by simp; omega
    clear hS hb hE EJ eH hsz hp hlk hh1 hh2
    generalize E.s.extract C.pos.toNat E.s.size = hd at *
    go_enter Try.func36, Try.ntmps36
    go_wp2_with fail
    refine HC.out.mono ?_
    rintro e w1 ⟨rfl, rfl⟩
    clear HC
    go_wp2_with fail
    refine AD.out.mono ?_
    rintro e w2 ⟨D, T, vt, vh', hr, ht, rfl, ho, hS, hg⟩
    have FIN : Hid (RetFed g (E.on chunk false) C w1 (.returned (.tuple #[vt, .int .i64 D.err])) w2) := ⟨D, T, vt, hr, ht, rfl, ho, ⟨f, ve, vr, vc, vh', false, fun _ => rfl, hS⟩, hg⟩
    clear AD hr ht ho hS hg
    go_wp2
    go_ret2
    exact FIN.out
  · have e0 : shut b C.err = C.err := by simp [shut, he]
    have e1 : (C.err != 0) = true := by simpa using he
    have SC : Hid (Sc w g (E.on chunk false) C) := by
      refine ⟨f, ve, vr, vc, vh, b, fun h0 => absurd h0 he, hS.m.env rfl rfl rfl rfl, ?_, hS.good.on chunk b, hS.sta.on chunk b⟩
      have := hS.h
      unfold heldOf at this ⊢
      rw [if_pos he] at this ⊢
      exact this
    rw [e0] at HC
    clear hS hb
    go_enter Try.func36, Try.ntmps36
    go_wp2_with fail
    refine HC.out.mono ?_
    rintro e w1 ⟨rfl, rfl⟩
    clear HC
    go_wp2
    go_ret2
    exact ⟨C, [], _, ⟨.refl _, Pure.mic_err he⟩, by simp, rfl, World.ownsRow_nil _ _ _ _, SC.out, World.grownBy.refl _ _⟩

set_option maxRecDepth 100000 in
set_option maxHeartbeats 1000000 in
theorem runFinish_any (g : Nat) (E : Pure.Env) (C : Pure.Cfg) (w : World) (h : Sc w g E C) (hE : E.ended = false) (hs : E.s.size ≤ 1099511627776) :
    Calls Try.prog 37 #[.pointer (some ⟨g, 0, none⟩)] w (RetFed g (E.on noBytes true) C w) := by
  obtain ⟨f, ve, vr, vc, vh, b, hb, hS⟩ := h
  have HC := hide (closed_any g _ ve vr vc vh C C.err w hS.m)
  by_cases he : C.err = 0
  · have hb' := (hb he).trans hE
    subst hb'
    have hsz := hS.sta.within
    have hp := hS.sta.pos
    have hlk := hS.sta.looked
    obtain ⟨ah, ch, rfl, hh1, hh2⟩ := hS.h.form
    have m1 := hS.m
    rw [he] at m1
    have m2 := m1.set 25 (.bool true) (E.on noBytes true) rfl (D := C) (fault' := 0) rfl
    have G1 := hide (Lib.grownBy_setCell w g 25 (.bool true))
    have hB2 := hS.h.on m1.blk (by decide) G1.out
    have c25 := hS.m.cell (j := 25) rfl
    have f25 := hS.m.frozen 25
    have c24 := m2.cell (j := 24) rfl
    have CV := back_str _ _ _ hB2
    have eH : heldOf { E with ended := false } C = E.s.extract C.pos.toNat E.s.size := by unfold heldOf; rw [if_neg (by omega)]
    rw [eH] at CV c24 hh1
    have EJ : Hid (E.s.extract C.pos.toNat E.s.size = (E.on noBytes true).s.extract C.pos.toNat (E.on noBytes true).s.size) := by
      have := join_rest E.s noBytes C.pos.toNat (by simp at hsz; omega)
      show _ = _
      rw [show (E.on noBytes true).s = E.s ++ noBytes from rfl, ← this]
      apply ByteArray.ext
      simp [noBytes]
    have AD : Hid (Calls Try.prog 58 #[.pointer (some ⟨g, 0, none⟩), .string (E.s.extract C.pos.toNat E.s.size)] (w.setCell ⟨g, 25, none⟩ (.bool true)) (RetAdv f g (E.on noBytes true) ve vr vc C (w.setCell ⟨g, 25, none⟩ (.bool true)))) := by
      show Calls _ _ _ _ _
      rw [EJ.out]
      exact advance_any f g (E.on noBytes true) ve vr vc _ C _ (hS.good.on noBytes true) (hS.sta.on noBytes true) he (by rw [Pure.on_size]; exact hs) m2
    have e0 : shut false C.err = 0 := by simp [shut, he]
    rw [e0] at HC
    have SZ : Hid ((w.setCell ⟨g, 25, none⟩ (.bool true)).heap.size = w.heap.size) := by show _ = _; simp [World.setCell]
    clear hS hb hE EJ eH hsz hp hlk hh1 hh2 m1 m2 hB2
    generalize E.s.extract C.pos.toNat E.s.size = hd at *
    go_enter Try.func37, Try.ntmps37
    go_wp2_with fail
    refine HC.out.mono ?_
    rintro e w1 ⟨rfl, rfl⟩
    clear HC
    go_wp2_with fail
    refine AD.out.mono ?_
    rintro e w2 ⟨D, T, vt, vh', hr, ht, rfl, ho, hS, hg⟩
    rw [SZ.out] at ho
    have FIN : Hid (RetFed g (E.on noBytes true) C w1 (.returned (.tuple #[vt, .int .i64 D.err])) w2) := ⟨D, T, vt, hr, ht, rfl, ho, ⟨f, ve, vr, vc, vh', true, fun _ => rfl, hS⟩, Lib.grownBy_trans G1.out hg⟩
    clear AD hr ht ho hS hg
    go_wp2
    go_ret2
    exact FIN.out
  · have e0 : shut b C.err = C.err := by simp [shut, he]
    have e1 : (C.err != 0) = true := by simpa using he
    have SC : Hid (Sc w g (E.on noBytes true) C) := by
      refine ⟨f, ve, vr, vc, vh, b, fun h0 => absurd h0 he, hS.m.env rfl rfl rfl rfl, ?_, hS.good.on noBytes b, hS.sta.on noBytes b⟩
      have := hS.h
      unfold heldOf at this ⊢
      rw [if_pos he] at this ⊢
      exact this
    rw [e0] at HC
    clear hS hb
    go_enter Try.func37, Try.ntmps37
    go_wp2_with fail
    refine HC.out.mono ?_
    rintro e w1 ⟨rfl, rfl⟩
    clear HC
    go_wp2
    go_ret2
    exact ⟨C, [], _, ⟨.refl _, Pure.mic_err he⟩, by simp, rfl, World.ownsRow_nil _ _ _ _, SC.out, World.grownBy.refl _ _⟩

/-- behind Finish: nothing any more -/
def RetShut (code : Int) (w : World) (e : Ending) (w' : World) : Prop := e = .returned (.tuple #[.slice none 0 0, .int .i64 code]) ∧ w' = w

set_option maxRecDepth 100000 in
set_option maxHeartbeats 1000000 in
theorem runFeed_shut (g : Nat) (E : Pure.Env) (C : Pure.Cfg) (chunk : ByteArray) (w : World) (h : Sc w g E C) (hE : E.ended = true) :
    Calls Try.prog 36 #[.pointer (some ⟨g, 0, none⟩), .string chunk] w (RetShut (shut true C.err) w) := by
  obtain ⟨f, ve, vr, vc, vh, b, hb, hS⟩ := h
  have HC := hide (closed_any g _ ve vr vc vh C C.err w hS.m)
  have e0 : shut b C.err = shut true C.err := by
    by_cases he : C.err = 0
    · rw [hb he, hE]
    · simp [shut, he]
  have e1 : (shut true C.err != 0) = true := by
    unfold shut
    by_cases he : C.err = 0
    · simp [he]
    · simp [he]
  rw [show ({ E with ended := b } : Pure.Env).ended = b from rfl, e0] at HC
  clear hS hb e0
  generalize shut true C.err = z at *
  go_enter Try.func36, Try.ntmps36
  go_wp2_with fail
  refine HC.out.mono ?_
  rintro e w1 ⟨rfl, rfl⟩
  clear HC
  go_wp2
  go_ret2
  exact ⟨rfl, rfl⟩

set_option maxRecDepth 100000 in
set_option maxHeartbeats 1000000 in
theorem runFinish_shut (g : Nat) (E : Pure.Env) (C : Pure.Cfg) (w : World) (h : Sc w g E C) (hE : E.ended = true) :
    Calls Try.prog 37 #[.pointer (some ⟨g, 0, none⟩)] w (RetShut (shut true C.err) w) := by
  obtain ⟨f, ve, vr, vc, vh, b, hb, hS⟩ := h
  have HC := hide (closed_any g _ ve vr vc vh C C.err w hS.m)
  have e0 : shut b C.err = shut true C.err := by
    by_cases he : C.err = 0
    · rw [hb he, hE]
    · simp [shut, he]
  have e1 : (shut true C.err != 0) = true := by
    unfold shut
    by_cases he : C.err = 0
    · simp [he]
    · simp [he]
  rw [show ({ E with ended := b } : Pure.Env).ended = b from rfl, e0] at HC
  clear hS hb e0
  generalize shut true C.err = z at *
  go_enter Try.func37, Try.ntmps37
  go_wp2_with fail
  refine HC.out.mono ?_
  rintro e w1 ⟨rfl, rfl⟩
  clear HC
  go_wp2
  go_ret2
  exact ⟨rfl, rfl⟩

end Go.Proofs.Ytmccnmgaoppogab

namespace Go.Proofs.Ytmccnmgaoppogab
open Go.RowKit

set_option maxHeartbeats 1000000 in
theorem feed_any (g : Nat) (E : Pure.Env) (C : Pure.Cfg) (chunk : ByteArray) (w : World) (h : Sc w g E C) (hE : E.ended = false) (hs : E.s.size + chunk.size ≤ 1099511627776) :
    Calls Try.prog 26 #[.pointer (some ⟨g, 0, none⟩), .string chunk] w (RetFed g (E.on chunk false) C w) := by
  have H := hide (runFeed_any g E C chunk w h hE hs)
  clear h hE hs
  go_enter Try.func26, Try.ntmps26
  go_wp2_with fail
  refine H.out.mono ?_
  rintro e w2 ⟨D, T, vt, hr, ht, rfl, ho, hS, hg⟩
  have FIN : Hid (RetFed g (E.on chunk false) C w (.returned (.tuple #[vt, .int .i64 D.err])) w2) := ⟨D, T, vt, hr, ht, rfl, ho, hS, hg⟩
  clear H hr ht ho hS hg
  go_wp2
  go_ret2
  exact FIN.out

set_option maxHeartbeats 1000000 in
theorem finish_any (g : Nat) (E : Pure.Env) (C : Pure.Cfg) (w : World) (h : Sc w g E C) (hE : E.ended = false) (hs : E.s.size ≤ 1099511627776) :
    Calls Try.prog 27 #[.pointer (some ⟨g, 0, none⟩)] w (RetFed g (E.on noBytes true) C w) := by
  have H := hide (runFinish_any g E C w h hE hs)
  clear h hE hs
  go_enter Try.func27, Try.ntmps27
  go_wp2_with fail
  refine H.out.mono ?_
  rintro e w2 ⟨D, T, vt, hr, ht, rfl, ho, hS, hg⟩
  have FIN : Hid (RetFed g (E.on noBytes true) C w (.returned (.tuple #[vt, .int .i64 D.err])) w2) := ⟨D, T, vt, hr, ht, rfl, ho, hS, hg⟩
  clear H hr ht ho hS hg
  go_wp2
  go_ret2
  exact FIN.out

set_option maxHeartbeats 1000000 in
theorem feed_shut (g : Nat) (E : Pure.Env) (C : Pure.Cfg) (chunk : ByteArray) (w : World) (h : Sc w g E C) (hE : E.ended = true) :
    Calls Try.prog 26 #[.pointer (some ⟨g, 0, none⟩), .string chunk] w (RetShut (shut true C.err) w) := by
  have H := hide (runFeed_shut g E C chunk w h hE)
  clear h hE
  go_enter Try.func26, Try.ntmps26
  go_wp2_with fail
  refine H.out.mono ?_
  rintro e w2 ⟨rfl, rfl⟩
  go_wp2
  go_ret2
  exact ⟨rfl, rfl⟩

set_option maxHeartbeats 1000000 in
theorem finish_shut (g : Nat) (E : Pure.Env) (C : Pure.Cfg) (w : World) (h : Sc w g E C) (hE : E.ended = true) :
    Calls Try.prog 27 #[.pointer (some ⟨g, 0, none⟩)] w (RetShut (shut true C.err) w) := by
  have H := hide (runFinish_shut g E C w h hE)
  clear h hE
  go_enter Try.func27, Try.ntmps27
  go_wp2_with fail
  refine H.out.mono ?_
  rintro e w2 ⟨rfl, rfl⟩
  go_wp2
  go_ret2
  exact ⟨rfl, rfl⟩

def stateV (E : Pure.Env) (C : Pure.Cfg) : Value := .agg #[.int .i64 C.pos, .int .i64 C.line, .int .i64 C.col, .int .i64 C.mode, .int .i64 C.dep, .int .i64 (heldOf E C).size, .int .i64 C.steps]

theorem scState_any (g : Nat) (E : Pure.Env) (C : Pure.Cfg) (w : World) (h : Sc w g E C) :
    Calls Try.prog 18 #[.pointer (some ⟨g, 0, none⟩)] w (RetV (stateV E C) w) := by
  obtain ⟨f, ve, vr, vc, vh, b, hb, hS⟩ := h
  obtain ⟨ah, ch, rfl, h1, h2⟩ := hS.h.form
  exact state_any g _ ve vr vc ah _ ch C C.err w hS.m (by have h1' : (heldOf E C).size ≤ ch := h1; show (heldOf E C).size ≤ _; omega)

theorem Sc.below {w w' : World} {g : Nat} {E : Pure.Env} {C : Pure.Cfg} (h : Sc w g E C) (hb : Below w.heap.size w w') : Sc w' g E C := by
  obtain ⟨f, ve, vr, vc, vh, b, hb', hS⟩ := h
  exact ⟨f, ve, vr, vc, vh, b, hb', hS.m.below hb, hS.h.below hb, hS.good, hS.sta⟩
theorem Sc.lt {w : World} {g : Nat} {E : Pure.Env} {C : Pure.Cfg} (h : Sc w g E C) : g < w.heap.size := by
  obtain ⟨f, ve, vr, vc, vh, b, hb', hS⟩ := h
  exact blk_lt hS.m.blk

def cfg0 (p : Pure.Prg) : Pure.Cfg := ⟨0, 1, 1, 0, List.replicate 8 0, 0, 0, Pure.ig p.ents 0, 0, 0, 0, 0, [], 0⟩
def env0 (p : Pure.Prg) (most depth : Int) : Pure.Env := ⟨p, most, depth, noBytes, false⟩

theorem good0 {p : Pure.Prg} {most depth : Int} (hp : Pure.RightP p) (hm : 1 ≤ most ∧ most ≤ 64) (hd : 0 ≤ depth ∧ depth ≤ 8) : ∃ f, Pure.Good (env0 p most depth) f := by
  obtain ⟨f, h0, h1⟩ := Pure.ranked hp.2.2.2 hp.2.2.1.tight
  exact ⟨f, hp, hm, hd, h0, h1⟩

theorem sta0 {p : Pure.Prg} {most depth : Int} {f : Nat → Int} (g : Pure.Good (env0 p most depth) f) : Pure.Sta (env0 p most depth) f (cfg0 p) := by
  have hp : Pure.RightP p := g.right
  have hm : 1 ≤ most ∧ most ≤ 64 := g.most
  have hd : 0 ≤ depth ∧ depth ≤ 8 := g.depth
  have e := hp.1.1
  have en := hp.1.2 0 (by omega)
  have r := hp.2.1.1
  have f0 : 0 ≤ f (Pure.ig p.ents 0).toNat ∧ f (Pure.ig p.ents 0).toNat < p.code.length := g.f0 (Pure.ig p.ents 0).toNat (by show (Pure.ig p.ents 0).toNat < p.code.length; omega)
  have z1 : ((0 : Int) + 1) * (p.code.length : Int) = p.code.length := by rw [Int.zero_add, Int.one_mul]
  have z0 : (0 : Int) * Pure.per (env0 p most depth) = 0 := Int.zero_mul _
  have hc := hp.2.2.1.1
  refine ⟨Int.le_refl _, ⟨Int.le_refl _, by show (0 : Int) ≤ most; omega⟩, by show (0 : Int) + 0 ≤ (0 : Nat); omega, ⟨Int.le_refl _, Int.le_refl _⟩, ⟨en.1, by show Pure.ig p.ents 0 ≤ p.code.length; omega⟩, ⟨Int.le_refl _, by show (0 : Int) ≤ 255; omega⟩, ⟨Int.le_refl _, by show (0 : Int) < p.rules.length; omega⟩, ⟨Int.le_refl _, by show (0 : Int) < p.ents.length; omega⟩, ⟨rfl, fun i hi => ?_⟩, ⟨Int.le_refl _, hd.1⟩, ⟨Int.le_refl _, by show (1 : Int) ≤ 0 + 1; omega⟩, ⟨Int.le_refl _, by show (1 : Int) ≤ 0 + 1; omega⟩, ⟨Int.le_refl _, ?_⟩, fun _ => ⟨en.2, ?_⟩, ⟨Int.le_refl _, by show (0 : Int) ≤ 7; omega⟩, Int.le_refl _⟩
  · have : Pure.ig (List.replicate 8 0) i = 0 := by
      match i, hi with
      | 0, _ => rfl
      | 1, _ => rfl
      | 2, _ => rfl
      | 3, _ => rfl
      | 4, _ => rfl
      | 5, _ => rfl
      | 6, _ => rfl
      | 7, _ => rfl
    show 0 ≤ Pure.ig (List.replicate 8 0) i ∧ Pure.ig (List.replicate 8 0) i < p.ents.length
    rw [this]; omega
  · show (0 : Int) ≤ 0 * Pure.per (env0 p most depth) + (0 + 1) * p.code.length
    omega
  · show (0 : Int) + f (Pure.ig p.ents 0).toNat + 1 ≤ 0 * Pure.per (env0 p most depth) + (0 + 1) * p.code.length
    omega

end Go.Proofs.Ytmccnmgaoppogab

namespace Go.Proofs.Ytmccnmgaoppogab
open Go.RowKit

def beginC (ve vr vc : Value) (most depth x : Int) : Array Value :=
  #[ve, vr, vc, .int .i64 most, .int .i64 depth, .int .i64 0, .int .i64 1, .int .i64 1, .int .i64 0, .int .i64 0, .int .i64 0, .int .i64 0, .int .i64 0, .int .i64 0, .int .i64 0, .int .i64 0, .int .i64 0, .int .i64 0, .int .i64 0,
    .int .i64 x, .int .i64 0, .int .i64 0, .int .i64 0, .int .i64 0, .slice none 0 0, .bool false, .int .i64 0]

theorem build_run (ae : Option Addr) (ne ce : Nat) (ar : Option Addr) (nr cr : Nat) (ac : Option Addr) (nc cc : Nat) (most depth x : Int) (w : World) :
    (Instr.build 82 #[(0, .agg #[.slice ae ne ce, .slice ar nr cr, .slice ac nc cc]), (1, .int .i64 most), (2, .int .i64 depth), (4, .int .i64 1), (5, .int .i64 1), (10, .agg #[.int .i64 x, .int .i64 0, .int .i64 0, .int .i64 0, .int .i64 0])]).run Try.prog w = .ok (.agg (beginC (.slice ae ne ce) (.slice ar nr cr) (.slice ac nc cc) most depth x)) w :=
  run_build w 82 _ _ (by kernel_rfl)

theorem beginC_ok (ae : Option Addr) (ne ce : Nat) (ar : Option Addr) (nr cr : Nat) (ac : Option Addr) (nc cc : Nat) (most depth x : Int) : (beginC (.slice ae ne ce) (.slice ar nr cr) (.slice ac nc cc) most depth x).all (·.oneCell') = true := by
  kernel_rfl

theorem step_store_row {P : Program} {w : World} {ops : Array Oper} {o : Oper} {a : Act} {K : Act → World → Prop} {Q : Exit → Act → World → Prop} {E : Prop} (hgd : o.guard = none) (ty : TypeId) (x y : Operand) (ho : o.op = .store ty x y)
    (g : Nat) (cells : Array Value) (hx : a.eval x = .pointer (some ⟨g, 0, none⟩)) (hy : a.eval y = .agg cells)
    (t : TypeId) (old : Array Value) (hg : w.heap[g]? = some (.cells old t (0, 0))) (hi : (P.info? ty).map (·.size) = some cells.size)
    (hold : old.size = cells.size) (h1 : cells.all (·.oneCell') = true)
    (h : K (a.put o.dst undef) (w.setRow g cells)) : if Region.wanted o (yielded ops a.tmps) = true then Oper.wp P o a w K Q else E := by
  have hw : Region.wanted o (yielded ops a.tmps) = true := by simp [Region.wanted, hgd]
  rw [if_pos hw]
  exact wp_store_row ty x y ho g cells hx hy t old hg hi hold h1 h

theorem step_build {P : Program} {w : World} {ops : Array Oper} {o : Oper} {a : Act} {K : Act → World → Prop} {Q : Exit → Act → World → Prop} {E : Prop} (hgd : o.guard = none) (t : TypeId) (parts : Array (Nat × Operand)) (ho : o.op = .build t parts)
    (cells : Array Value) (hc : P.built t (parts.map fun (i, x) => (i, a.eval x)).toList = some cells)
    (h : K (a.put o.dst (.agg cells)) w) : if Region.wanted o (yielded ops a.tmps) = true then Oper.wp P o a w K Q else E := by
  have hw : Region.wanted o (yielded ops a.tmps) = true := by simp [Region.wanted, hgd]
  rw [if_pos hw]
  refine wp_build t parts ho (by rw [hc]; rfl) ?_
  rw [hc]
  exact h

theorem results_cell1 {fn : Func} {p : Tmp} {ty : TypeId} (h : fn.results = #[.cell p ty]) (tmps : Array Value) (P : Program) (w : World) :
    (results fn tmps).run P w = ((asAddr (tmps.getD p undef)).run P w).andThen fun a w₁ => (loadVar ty a).run P w₁ := by
  simp only [results, h]
  simp [Sem.run_bind, Result.andThen]

theorem Try.size82 : (Try.prog.info? 82).map (·.size) = some 27 := by kernel_rfl

set_option maxRecDepth 100000 in
set_option maxHeartbeats 2000000 in
theorem sbegin_any (ge ce : Nat) (ar : Option Addr) (nr cr : Nat) (ac : Option Addr) (nc cc : Nat) (p : Pure.Prg) (most depth : Int) (w : World) (hE : w.cell? ⟨ge, 0, none⟩ = some (.int .i64 (Pure.ig p.ents 0))) (hn : 1 ≤ p.ents.length) (_hc : p.ents.length ≤ ce) (_hc2 : ce ≤ 9223372036854775807) :
    Calls Try.prog 25 #[.agg #[.slice (some ⟨ge, 0, none⟩) p.ents.length ce, .slice ar nr cr, .slice ac nc cc], .int .i64 most, .int .i64 depth] w (RetV (.agg (beginC (.slice (some ⟨ge, 0, none⟩) p.ents.length ce) (.slice ar nr cr) (.slice ac nc cc) most depth (Pure.ig p.ents 0))) w) := by
  have hlt := World.block_lt_of_cell? w ⟨ge, 0, none⟩ hE
  simp only at hlt
  have n1 : ge ≠ w.heap.size := by omega
  have n2 : ge ≠ w.heap.size + 1 := by omega
  have n1' : w.heap.size ≠ ge := by omega
  have n2' : w.heap.size + 1 ≠ ge := by omega
  have n3 : w.heap.size + 1 ≠ w.heap.size := by omega
  have n3' : w.heap.size ≠ w.heap.size + 1 := by omega
  have hi : (0 : Int) < (p.ents.length : Int) := by omega
  generalize Pure.ig p.ents 0 = x at *
  generalize p.ents.length = ne at *
  have hn0 : 0 < ne := by omega
  go_enter Try.func25, Try.ntmps25
  go_wp2_with fail
  have hB := hide (((Below.refl w.heap.size w).alloc (Nat.le_refl _) (.cells #[.slice (some ⟨ge, 0, none⟩) ne ce, .slice ar nr cr, .slice ac nc cc] 75)).alloc (by simp) (.cells #[.slice none 0 0, .slice none 0 0, .slice none 0 0, .int .i64 0, .int .i64 0, .int .i64 0, .int .i64 0, .int .i64 0, .int .i64 0, .int .i64 0, .int .i64 0, .int .i64 0, .int .i64 0, .int .i64 0, .int .i64 0, .int .i64 0, .int .i64 0, .int .i64 0, .int .i64 0, .int .i64 0, .int .i64 0, .int .i64 0, .int .i64 0, .int .i64 0, .slice none 0 0, .bool false, .int .i64 0] 82))
  have KP : Blk ((w.alloc (.cells #[.slice (some ⟨ge, 0, none⟩) ne ce, .slice ar nr cr, .slice ac nc cc] 75)).alloc (.cells #[.slice none 0 0, .slice none 0 0, .slice none 0 0, .int .i64 0, .int .i64 0, .int .i64 0, .int .i64 0, .int .i64 0, .int .i64 0, .int .i64 0, .int .i64 0, .int .i64 0, .int .i64 0, .int .i64 0, .int .i64 0, .int .i64 0, .int .i64 0, .int .i64 0, .int .i64 0, .int .i64 0, .int .i64 0, .int .i64 0, .int .i64 0, .int .i64 0, .slice none 0 0, .bool false, .int .i64 0] 82)) w.heap.size 75 [.slice (some ⟨ge, 0, none⟩) ne ce, .slice ar nr cr, .slice ac nc cc] := blk_alloc (heap_alloc_new _ _) _
  have KR : Blk ((w.alloc (.cells #[.slice (some ⟨ge, 0, none⟩) ne ce, .slice ar nr cr, .slice ac nc cc] 75)).alloc (.cells #[.slice none 0 0, .slice none 0 0, .slice none 0 0, .int .i64 0, .int .i64 0, .int .i64 0, .int .i64 0, .int .i64 0, .int .i64 0, .int .i64 0, .int .i64 0, .int .i64 0, .int .i64 0, .int .i64 0, .int .i64 0, .int .i64 0, .int .i64 0, .int .i64 0, .int .i64 0, .int .i64 0, .int .i64 0, .int .i64 0, .int .i64 0, .int .i64 0, .slice none 0 0, .bool false, .int .i64 0] 82)) (w.heap.size + 1) 82 [.slice none 0 0, .slice none 0 0, .slice none 0 0, .int .i64 0, .int .i64 0, .int .i64 0, .int .i64 0, .int .i64 0, .int .i64 0, .int .i64 0, .int .i64 0, .int .i64 0, .int .i64 0, .int .i64 0, .int .i64 0, .int .i64 0, .int .i64 0, .int .i64 0, .int .i64 0, .int .i64 0, .int .i64 0, .int .i64 0, .int .i64 0, .int .i64 0, .slice none 0 0, .bool false, .int .i64 0] := by
    have := heap_alloc_new (w.alloc (.cells #[.slice (some ⟨ge, 0, none⟩) ne ce, .slice ar nr cr, .slice ac nc cc] 75)) (.cells #[.slice none 0 0, .slice none 0 0, .slice none 0 0, .int .i64 0, .int .i64 0, .int .i64 0, .int .i64 0, .int .i64 0, .int .i64 0, .int .i64 0, .int .i64 0, .int .i64 0, .int .i64 0, .int .i64 0, .int .i64 0, .int .i64 0, .int .i64 0, .int .i64 0, .int .i64 0, .int .i64 0, .int .i64 0, .int .i64 0, .int .i64 0, .int .i64 0, .slice none 0 0, .bool false, .int .i64 0] 82)
    rw [World.size_alloc] at this
    exact this
  have hE' := (hB.out.cell (p := ⟨ge, 0, none⟩) hlt).trans hE
  generalize (w.alloc (.cells #[.slice (some ⟨ge, 0, none⟩) ne ce, .slice ar nr cr, .slice ac nc cc] 75)).alloc (.cells #[.slice none 0 0, .slice none 0 0, .slice none 0 0, .int .i64 0, .int .i64 0, .int .i64 0, .int .i64 0, .int .i64 0, .int .i64 0, .int .i64 0, .int .i64 0, .int .i64 0, .int .i64 0, .int .i64 0, .int .i64 0, .int .i64 0, .int .i64 0, .int .i64 0, .int .i64 0, .int .i64 0, .int .i64 0, .int .i64 0, .int .i64 0, .int .i64 0, .slice none 0 0, .bool false, .int .i64 0] 82) = W0 at *
  have p0 := blk_cell (j := 0) KP rfl
  have p1 := blk_cell (j := 1) KP rfl
  have p2 := blk_cell (j := 2) KP rfl
  have T1 : Hid ((W0.drew.setRow (w.heap.size + 1) (beginC (.slice (some ⟨ge, 0, none⟩) ne ce) (.slice ar nr cr) (.slice ac nc cc) most depth x)).cell? ⟨w.heap.size, 0, none⟩ = some (.slice (some ⟨ge, 0, none⟩) ne ce) ∧ (W0.drew.setRow (w.heap.size + 1) (beginC (.slice (some ⟨ge, 0, none⟩) ne ce) (.slice ar nr cr) (.slice ac nc cc) most depth x)).cell? ⟨w.heap.size, 1, none⟩ = some (.slice ar nr cr) ∧ (W0.drew.setRow (w.heap.size + 1) (beginC (.slice (some ⟨ge, 0, none⟩) ne ce) (.slice ar nr cr) (.slice ac nc cc) most depth x)).cell? ⟨w.heap.size, 2, none⟩ = some (.slice ac nc cc) ∧ (W0.drew.setRow (w.heap.size + 1) (beginC (.slice (some ⟨ge, 0, none⟩) ne ce) (.slice ar nr cr) (.slice ac nc cc) most depth x)).cell? ⟨ge, 0, none⟩ = some (.int .i64 x)) :=
    ⟨(cell_setRow_other _ _ _ _ n3').trans p0, (cell_setRow_other _ _ _ _ n3').trans p1, (cell_setRow_other _ _ _ _ n3').trans p2, (cell_setRow_other _ _ _ _ n2).trans hE'⟩
  have hB2 : Hid (Below w.heap.size w (W0.drew.setRow (w.heap.size + 1) (beginC (.slice (some ⟨ge, 0, none⟩) ne ce) (.slice ar nr cr) (.slice ac nc cc) most depth x))) := ⟨hB.out.os, hB.out.tape, hB.out.output, by simpa using hB.out.size, fun k hk => by
    rw [setRow_other _ _ _ _ (by omega)]
    exact hB.out.block k hk⟩
  have KF : Hid ((W0.drew.setRow (w.heap.size + 1) (beginC (.slice (some ⟨ge, 0, none⟩) ne ce) (.slice ar nr cr) (.slice ac nc cc) most depth x)).heap[w.heap.size + 1]? = some (.cells (beginC (.slice (some ⟨ge, 0, none⟩) ne ce) (.slice ar nr cr) (.slice ac nc cc) most depth x) 82 (0, 0))) := setRow_heap W0.drew _ _ _ _ _ KR
  clear KP hB hE
  refine wp_region_held_drew (S := fun w' => w'.cell? ⟨w.heap.size, 0, none⟩ = some (.slice (some ⟨ge, 0, none⟩) ne ce) ∧ w'.cell? ⟨w.heap.size, 1, none⟩ = some (.slice ar nr cr) ∧ w'.cell? ⟨w.heap.size, 2, none⟩ = some (.slice ac nc cc) ∧ w'.cell? ⟨ge, 0, none⟩ = some (.int .i64 x)) (by kernel_rfl) ⟨p0, p1, p2, hE'⟩ (fun hHeld => ?_)
  refine wpAnyH_take (i := 0) (oi := { dst := some 7, op := .load 75 (.tmp 3), type := 75, pos := "scan.go:38", after := #[], guard := none }) (v := ?v0) rfl (by kernel_rfl) (by kernel_rfl) (by kernel_rfl) (fun _ _ _ h => h) (Or.inl ⟨by rfl, ?hy0⟩) (by assumption) ?rest0
  case hy0 => (intro w hSw; (try dsimp only at hSw); go_simp; try (with_reducible rfl))
  try simp only [Act.put, List.setIfInBounds_toArray, List.set_cons_zero, List.set_cons_succ]
  refine wpAnyH_take (i := 1) (oi := { dst := some 8, op := .move (.tmp 1), type := 3, pos := "scan.go:38", after := #[], guard := none }) (v := ?v1) rfl (by kernel_rfl) (by kernel_rfl) (by kernel_rfl) (fun _ _ _ h => h) (Or.inl ⟨by rfl, ?hy1⟩) (by assumption) ?rest1
  case hy1 => (intro w hSw; (try dsimp only at hSw); go_simp; try (with_reducible rfl))
  try simp only [Act.put, List.setIfInBounds_toArray, List.set_cons_zero, List.set_cons_succ]
  refine wpAnyH_take (i := 2) (oi := { dst := some 9, op := .move (.tmp 2), type := 3, pos := "scan.go:38", after := #[], guard := none }) (v := ?v2) rfl (by kernel_rfl) (by kernel_rfl) (by kernel_rfl) (fun _ _ _ h => h) (Or.inl ⟨by rfl, ?hy2⟩) (by assumption) ?rest2
  case hy2 => (intro w hSw; (try dsimp only at hSw); go_simp; try (with_reducible rfl))
  try simp only [Act.put, List.setIfInBounds_toArray, List.set_cons_zero, List.set_cons_succ]
  refine wpAnyH_take (i := 3) (oi := { dst := some 10, op := .fieldAddr 75 (.tmp 3) 0, type := 0, pos := "scan.go:38", after := #[], guard := none }) (v := ?v3) rfl (by kernel_rfl) (by kernel_rfl) (by kernel_rfl) (fun _ _ _ h => h) (Or.inl ⟨by rfl, ?hy3⟩) (by assumption) ?rest3
  case hy3 => (intro w hSw; (try dsimp only at hSw); go_simp; try (with_reducible rfl))
  try simp only [Act.put, List.setIfInBounds_toArray, List.set_cons_zero, List.set_cons_succ]
  refine wpAnyH_take (i := 4) (oi := { dst := some 11, op := .load 61 (.tmp 10), type := 61, pos := "scan.go:38", after := #[{ on := 3, ground := .data }], guard := none }) (v := ?v4) rfl (by kernel_rfl) (by kernel_rfl) (by kernel_rfl) (fun _ _ _ h => h) (Or.inl ⟨by rfl, ?hy4⟩) (by assumption) ?rest4
  case hy4 => (intro w hSw; (try dsimp only at hSw); go_simp; try (with_reducible rfl))
  try simp only [Act.put, List.setIfInBounds_toArray, List.set_cons_zero, List.set_cons_succ]
  refine wpAnyH_take (i := 5) (oi := { dst := some 12, op := .indexAddr 61 (.tmp 11) (.const (.int .i64 0)), type := 0, pos := "scan.go:38", after := #[{ on := 4, ground := .data }], guard := none }) (v := ?v5) rfl (by kernel_rfl) (by kernel_rfl) (by kernel_rfl) (fun _ _ _ h => h) (Or.inl ⟨by rfl, ?hy5⟩) (by assumption) ?rest5
  case hy5 => (intro w hSw; (try dsimp only at hSw); go_simp; try (with_reducible rfl))
  try simp only [Act.put, List.setIfInBounds_toArray, List.set_cons_zero, List.set_cons_succ]
  refine wpAnyH_take (i := 6) (oi := { dst := some 13, op := .load 3 (.tmp 12), type := 3, pos := "scan.go:38", after := #[{ on := 5, ground := .data }], guard := none }) (v := ?v6) rfl (by kernel_rfl) (by kernel_rfl) (by kernel_rfl) (fun _ _ _ h => h) (Or.inl ⟨by rfl, ?hy6⟩) (by assumption) ?rest6
  case hy6 => (intro w hSw; (try dsimp only at hSw); go_simp; try (with_reducible rfl))
  try simp only [Act.put, List.setIfInBounds_toArray, List.set_cons_zero, List.set_cons_succ]
  refine wpAnyH_take (i := 7) (oi := { dst := some 14, op := .build 80 #[(0, .tmp 13)], type := 80, pos := "scan.go:38", after := #[{ on := 6, ground := .data }], guard := none }) (v := ?v7) rfl (by kernel_rfl) (by kernel_rfl) (by kernel_rfl) (fun _ _ _ h => h) (Or.inl ⟨by rfl, ?hy7⟩) (by assumption) ?rest7
  case hy7 => (intro w hSw; (try dsimp only at hSw); go_simp; try (with_reducible rfl))
  try simp only [Act.put, List.setIfInBounds_toArray, List.set_cons_zero, List.set_cons_succ]
  refine wpAnyH_ready (rs := [8]) (by kernel_rfl) (by simp) ?_
  refine AllReadyH.cons (o := { dst := some 15, op := .build 82 #[(0, .tmp 7), (1, .tmp 8), (2, .tmp 9), (4, .const (.int .i64 1)), (5, .const (.int .i64 1)), (10, .tmp 14)], type := 82, pos := "scan.go:38", after := #[{ on := 0, ground := .data }, { on := 1, ground := .data }, { on := 2, ground := .data }, { on := 7, ground := .data }], guard := none }) rfl (fun K hK => ?_) AllReadyH.nil
  refine step_build rfl 82 _ rfl (beginC (.slice (some ⟨ge, 0, none⟩) ne ce) (.slice ar nr cr) (.slice ac nc cc) most depth x) (by kernel_rfl) ?_
  refine hK.out _ _ hHeld (fun hHeld2 => ?_)
  clear hK K
  try simp only [Act.put, List.setIfInBounds_toArray, List.set_cons_zero, List.set_cons_succ]
  refine wpAnyH_ready (rs := [9]) (by kernel_rfl) (by simp) ?_
  refine AllReadyH.cons (o := { dst := none, op := .store 82 (.tmp 6) (.tmp 15), type := 0, pos := "scan.go:38", after := #[{ on := 8, ground := .data }, { on := 0, ground := .phase }, { on := 1, ground := .phase }, { on := 2, ground := .phase }, { on := 3, ground := .phase }, { on := 4, ground := .phase }, { on := 5, ground := .phase }, { on := 6, ground := .phase }, { on := 7, ground := .phase }, { on := 8, ground := .phase }], guard := none }) rfl (fun K hK => step_store_row rfl 82 (.tmp 6) (.tmp 15) rfl (w.heap.size + 1) (beginC (.slice (some ⟨ge, 0, none⟩) ne ce) (.slice ar nr cr) (.slice ac nc cc) most depth x) rfl rfl 82 _ KR Try.size82 rfl (beginC_ok _ _ _ _ _ _ _ _ _ _ _ _) (hK.out _ _ T1.out (fun _ => ?_))) AllReadyH.nil
  refine wpAnyH_done (by kernel_rfl) ?_ _
  clear T1 hHeld hHeld2 KR p0 p1 p2 hE'
  generalize W0.drew.setRow (w.heap.size + 1) (beginC (.slice (some ⟨ge, 0, none⟩) ne ce) (.slice ar nr cr) (.slice ac nc cc) most depth x) = W1 at *
  go_wp2
  refine bodyPost_ret (v := .agg (beginC (.slice (some ⟨ge, 0, none⟩) ne ce) (.slice ar nr cr) (.slice ac nc cc) most depth x)) ?_ rfl ⟨rfl, hB2.out⟩
  rw [results_cell1 Try.results25]
  exact run_loadVar_row W1 (w.heap.size + 1) 82 82 (beginC (.slice (some ⟨ge, 0, none⟩) ne ce) (.slice ar nr cr) (.slice ac nc cc) most depth x) (0, 0) _ KF.out Try.underlying82 rfl Try.size82

end Go.Proofs.Ytmccnmgaoppogab

namespace Go.Proofs.Ytmccnmgaoppogab
open Go.RowKit

def StartOK (s : ByteArray) (most depth : Int) : Prop := (Form s ∧ Pure.RightP (prgOf s)) ∧ (1 ≤ most ∧ most ≤ 64) ∧ (0 ≤ depth ∧ depth ≤ 8)

/-- what Start gives -/
def RetStart (s : ByteArray) (most depth : Int) (w : World) (e : Ending) (w' : World) : Prop :=
  (StartOK s most depth ∧ ∃ g, e = .returned (.tuple #[.pointer (some ⟨g, 0, none⟩), .int .i64 0]) ∧ w.heap.size ≤ g ∧ Below w.heap.size w w' ∧ Sc w' g (env0 (prgOf s) most depth) (cfg0 (prgOf s))) ∨
  (¬ (Form s ∧ Pure.RightP (prgOf s)) ∧ e = .returned (.tuple #[.pointer none, .int .i64 2]) ∧ Below w.heap.size w w') ∨
  ((Form s ∧ Pure.RightP (prgOf s)) ∧ ¬ ((1 ≤ most ∧ most ≤ 64) ∧ (0 ≤ depth ∧ depth ≤ 8)) ∧ e = .returned (.tuple #[.pointer none, .int .i64 3]) ∧ Below w.heap.size w w')

theorem wpList_build_to {P : Program} {w : World} {ops : Array Oper} {rest : List Oper} {o : Oper} {a : Act} {Q : Exit → Act → World → Prop} (hg : o.guard = none) (t : TypeId) (parts : Array (Nat × Operand)) (ho : o.op = .build t parts)
    (cells : Array Value) (hc : P.built t (parts.map fun (i, x) => (i, a.eval x)).toList = some cells)
    (h : wpList P ops Q rest (a.put o.dst (.agg cells)) w) : wpList P ops Q (o :: rest) a w := by
  refine wpList_build hg t parts ho (by rw [hc]; rfl) ?_
  rw [hc]
  exact h

theorem begin_cells (ve vr vc : Value) (p : Pure.Prg) (most depth : Int) : (beginC ve vr vc most depth (Pure.ig p.ents 0)).toList = runCells ve vr vc (.slice none 0 0) most depth (cfg0 p) false 0 := rfl

set_option maxRecDepth 100000 in
set_option maxHeartbeats 2000000 in
theorem start_any (s : ByteArray) (most depth : Int) (w : World) (hs : s.size ≤ 9223372036854775807) (_rm : Rng most) (_rd : Rng depth) :
    Calls Try.prog 16 #[.string s, .int .i64 most, .int .i64 depth] w (RetStart s most depth w) := by
  go_enter Try.func16, Try.ntmps16
  go_wp2_with fail
  refine (unpack_any s _ hs).mono ?_
  rintro e w1 (⟨hF, hP, ve, vr, vc, rfl, hB1, he, hr, hc⟩ | ⟨hF, rfl, hB1⟩)
  rotate_left
  · have HF := hide hF
    have HB := hide hB1
    clear hF hB1
    go_wp2
    go_ret2
    exact .inr (.inl ⟨HF.out, rfl, HB.out.alloc HB.out.size _⟩)
  · have l1 : (prgOf s).ents.length = nE s := entsOf_len _ _ _
    have l2 : (prgOf s).rules.length = nR s := rulesOf_len _ _ _
    have l3 : (prgOf s).code.length = nC s := codeOf_len _ _ _
    rw [← l1] at he
    rw [← l2] at hr
    rw [← l3] at hc
    have hn1 := hP.1.1
    have hn2 := hP.2.1.1
    have hn3 := hP.2.2.1.1
    obtain ⟨ge, ce, rfl, e1, e2⟩ := own_some he (by omega)
    obtain ⟨gr, cr, rfl, r1, r2⟩ := own_some hr (by omega)
    obtain ⟨gc, cc, rfl, c1, c2⟩ := own_some hc (by omega)
    have HL : Hid (Lists w1 (prgOf s) _ _ _) := ⟨own_mono he (Nat.zero_le _), own_mono hr (Nat.zero_le _), own_mono hc (Nat.zero_le _)⟩
    have cE := own_int he (i := 0) (by omega)
    have HFP := hide (And.intro hF hP)
    have HB := hide hB1
    clear he hr hc hF hP hB1 l1 l2 l3
    by_cases m1 : most < 1
    · have d1 : decide (most < 1) = true := decide_eq_true m1
      go_wp2
      go_ret2
      exact .inr (.inr ⟨HFP.out, fun h => by omega, rfl, HB.out.alloc HB.out.size _⟩)
    by_cases m2 : 64 < most
    · have d1 : decide (most < 1) = false := decide_eq_false m1
      have d2 : decide (64 < most) = true := decide_eq_true m2
      go_wp2
      go_ret2
      exact .inr (.inr ⟨HFP.out, fun h => by omega, rfl, HB.out.alloc HB.out.size _⟩)
    by_cases m3 : depth < 0
    · have d1 : decide (most < 1) = false := decide_eq_false m1
      have d2 : decide (64 < most) = false := decide_eq_false m2
      have d3 : decide (depth < 0) = true := decide_eq_true m3
      go_wp2
      go_ret2
      exact .inr (.inr ⟨HFP.out, fun h => by omega, rfl, HB.out.alloc HB.out.size _⟩)
    by_cases m4 : 8 < depth
    · have d1 : decide (most < 1) = false := decide_eq_false m1
      have d2 : decide (64 < most) = false := decide_eq_false m2
      have d3 : decide (depth < 0) = false := decide_eq_false m3
      have d4 : decide (8 < depth) = true := decide_eq_true m4
      go_wp2
      go_ret2
      exact .inr (.inr ⟨HFP.out, fun h => by omega, rfl, HB.out.alloc HB.out.size _⟩)
    have d1 : decide (most < 1) = false := decide_eq_false m1
    have d2 : decide (64 < most) = false := decide_eq_false m2
    have d3 : decide (depth < 0) = false := decide_eq_false m3
    have d4 : decide (8 < depth) = false := decide_eq_false m4
    have HM : Hid ((1 ≤ most ∧ most ≤ 64) ∧ (0 ≤ depth ∧ depth ≤ 8)) := ⟨⟨by omega, by omega⟩, ⟨by omega, by omega⟩⟩
    have B1 := hide (HB.out.alloc HB.out.size (.cells #[.slice (some ⟨ge, 0, none⟩) (prgOf s).ents.length ce, .slice (some ⟨gr, 0, none⟩) (prgOf s).rules.length cr, .slice (some ⟨gc, 0, none⟩) (prgOf s).code.length cc] 75))
    have BA := hide ((Below.refl w1.heap.size w1).alloc (Nat.le_refl _) (.cells #[.slice (some ⟨ge, 0, none⟩) (prgOf s).ents.length ce, .slice (some ⟨gr, 0, none⟩) (prgOf s).rules.length cr, .slice (some ⟨gc, 0, none⟩) (prgOf s).code.length cc] 75))
    clear m1 m2 m3 m4
    go_wp2_with fail
    refine (sbegin_any ge ce _ _ cr _ _ cc (prgOf s) most depth _ ((BA.out.cell (p := ⟨ge, 0, none⟩) (World.block_lt_of_cell? w1 ⟨ge, 0, none⟩ cE)).trans cE) (by omega) e1 e2).mono ?_
    rintro e w2 ⟨rfl, hB2⟩
    have B2 := hide (B1.out.trans (hB2.mono (by have := BA.out.size; have := HB.out.size; omega)))
    have L2 := hide ((HL.out.below BA.out).below hB2)
    clear hB2 BA B1 HL HB cE
    go_wp2_with (first | (refine wpList_build_to rfl 85 _ rfl (beginC (.slice (some ⟨ge, 0, none⟩) (prgOf s).ents.length ce) (.slice (some ⟨gr, 0, none⟩) (prgOf s).rules.length cr) (.slice (some ⟨gc, 0, none⟩) (prgOf s).code.length cc) most depth (Pure.ig (prgOf s).ents 0)) (by kernel_rfl) ?_))
    go_ret2
    refine .inl ⟨⟨HFP.out, HM.out⟩, w2.heap.size, rfl, B2.out.size, B2.out.alloc B2.out.size _, ?_⟩
    obtain ⟨f, hf⟩ := good0 HFP.out.2 HM.out.1 HM.out.2
    have hb : Blk (w2.alloc (.cells (beginC (.slice (some ⟨ge, 0, none⟩) (prgOf s).ents.length ce) (.slice (some ⟨gr, 0, none⟩) (prgOf s).rules.length cr) (.slice (some ⟨gc, 0, none⟩) (prgOf s).code.length cc) most depth (Pure.ig (prgOf s).ents 0)) 85)) w2.heap.size 85 (beginC (.slice (some ⟨ge, 0, none⟩) (prgOf s).ents.length ce) (.slice (some ⟨gr, 0, none⟩) (prgOf s).rules.length cr) (.slice (some ⟨gc, 0, none⟩) (prgOf s).code.length cc) most depth (Pure.ig (prgOf s).ents 0)).toList := heap_alloc_new w2 (.cells (beginC (.slice (some ⟨ge, 0, none⟩) (prgOf s).ents.length ce) (.slice (some ⟨gr, 0, none⟩) (prgOf s).rules.length cr) (.slice (some ⟨gc, 0, none⟩) (prgOf s).code.length cc) most depth (Pure.ig (prgOf s).ents 0)) 85)
    rw [begin_cells] at hb
    refine ⟨f, _, _, _, .slice none 0 0, false, fun _ => rfl, ⟨hb, L2.out.below ((Below.refl _ _).alloc (Nat.le_refl _) _)⟩, .inl ⟨?_, rfl⟩, hf, sta0 hf⟩
    unfold heldOf
    rw [if_neg (by show ¬ ((0 : Int) ≠ 0); omega)]
    rfl

end Go.Proofs.Ytmccnmgaoppogab

namespace Go.Proofs.Ytmccnmgaoppogab
open Go.RowKit

theorem Pure.look_wait {E : Pure.Env} {C : Pure.Cfg} (h : Pure.look E C = .wait) : E.ended = false ∧ (E.s.size : Int) ≤ C.pos + C.looked := by
  unfold Pure.look at h
  simp only at h
  split at h
  · cases h
  split at h
  · split at h
    · rename_i h2
      split at h
      · cases h
      · rename_i h3
        exact ⟨by cases hh : E.ended with | true => exact absurd hh h3 | false => rfl, h2⟩
    · split at h <;> cases h
  split at h
  · cases h
  split at h <;> cases h

theorem Pure.mic_none {E : Pure.Env} {C : Pure.Cfg} (h : Pure.mic E C = none) (he : C.err = 0) : (E.s.size : Int) ≤ C.pos ∨ Pure.look E C = .wait := by
  unfold Pure.mic at h
  split at h
  · rename_i h1
    rcases h1 with h1 | h1
    · exact absurd he h1
    · exact .inl h1
  · cases hl : Pure.look E C with
    | wait => exact .inr rfl
    | go D => rw [hl] at h; cases h
    | stop D e => rw [hl] at h; cases h

theorem Sc.good {w : World} {g : Nat} {E : Pure.Env} {C : Pure.Cfg} (h : Sc w g E C) : ∃ f, Pure.Good E f ∧ Pure.Sta E f C := by
  obtain ⟨f, ve, vr, vc, vh, b, hb, hS⟩ := h
  have g := hS.good
  have s := hS.sta
  exact ⟨f, ⟨g.right, g.most, g.depth, g.f0, g.f1⟩, ⟨s.pos, s.looked, s.within, s.marked, s.ins, s.c, s.rule, s.mode, s.stk, s.dep, s.line, s.col, s.steps, s.live, s.err, s.toks⟩⟩

theorem held_size {E : Pure.Env} {C : Pure.Cfg} (he : C.err = 0) : (heldOf E C).size = E.s.size - C.pos.toNat := by
  unfold heldOf
  rw [if_neg (by omega)]
  simp
theorem held_none {E : Pure.Env} {C : Pure.Cfg} (he : C.err ≠ 0) : heldOf E C = ⟨#[]⟩ := by
  unfold heldOf
  rw [if_pos he]

theorem end_of {E : Pure.Env} {f : Nat → Int} {C : Pure.Cfg} (h : Pure.Sta E f C) (hn : Pure.mic E C = none) (hE : E.ended = true) (he : C.err = 0) : C.pos = E.s.size := by
  have hw := h.within
  have hl := h.looked
  rcases Pure.mic_none hn he with h1 | h1
  · omega
  · have := (Pure.look_wait h1).1
    rw [hE] at this
    cases this

/-- an error stands: nothing more comes -/
theorem fed_err {g : Nat} {E : Pure.Env} {C : Pure.Cfg} {w w' : World} {e : Ending} (h : RetFed g E C w e w') (he : C.err ≠ 0) : ∃ ao cap, e = .returned (.tuple #[.slice ao 0 cap, .int .i64 C.err]) ∧ cap ≤ 9223372036854775807 ∧ Sc w' g E C ∧ w.grownBy w' (some g) := by
  obtain ⟨D, T, vt, hr, ht, rfl, ho, hS, hg⟩ := h
  have : C = D := hr.1.done (Pure.mic_err he)
  subst this
  have hT : T = [] := by
    have := congrArg List.length ht
    rw [List.length_append] at this
    exact List.eq_nil_of_length_eq_zero (by omega)
  subst hT
  obtain ⟨ao, cap, rfl, _, h2, _⟩ := own_read ho
  unfold maxLen at h2
  exact ⟨ao, cap, rfl, h2, hS, hg⟩


/-- a list of strings lies there -/
def sg (l : List ByteArray) (i : Nat) : ByteArray := l.getD i noBytes
def Strs (w : World) (v : Value) (l : List ByteArray) : Prop := ∃ ao cap, v = .slice ao l.length cap ∧ l.length ≤ cap ∧ cap ≤ 9223372036854775807 ∧
    ∀ i, i < l.length → ∃ b off, ao = some ⟨b, off, none⟩ ∧ b < w.heap.size ∧ w.cell? ⟨b, off + i, none⟩ = some (.string (sg l i))
theorem Strs.read {w : World} {v : Value} {l : List ByteArray} (h : Strs w v l) : ∃ ao cap, v = .slice ao l.length cap ∧ l.length ≤ cap ∧ cap ≤ 9223372036854775807 ∧
    ∀ i, i < l.length → ∃ b off, ao = some ⟨b, off, none⟩ ∧ b < w.heap.size ∧ w.cell? ⟨b, off + i, none⟩ = some (.string (sg l i)) := h

/-- the first k of them, one behind the other -/
def catN (l : List ByteArray) : Nat → ByteArray
  | 0 => noBytes
  | k + 1 => catN l k ++ sg l k
def sumN (l : List ByteArray) : Nat → Nat
  | 0 => 0
  | k + 1 => sumN l k + (sg l k).size
theorem cat_size (l : List ByteArray) : ∀ k, (catN l k).size = sumN l k
  | 0 => rfl
  | k + 1 => by rw [catN, sumN, ByteArray.size_append, cat_size l k]
theorem sum_le (l : List ByteArray) : ∀ {a b : Nat}, a ≤ b → sumN l a ≤ sumN l b := by
  intro a b h
  induction h with
  | refl => exact Nat.le_refl _
  | step _ ih => rw [sumN]; omega

def envK (p : Pure.Prg) (m d : Int) (l : List ByteArray) (k : Nat) : Pure.Env := ⟨p, m, d, catN l k, false⟩
theorem envK_on (p : Pure.Prg) (m d : Int) (l : List ByteArray) (k : Nat) : (envK p m d l k).on (sg l k) false = envK p m d l (k + 1) := rfl


def strCells (l : List ByteArray) : List Value := l.map Value.string
theorem strCells_get (l : List ByteArray) (i : Nat) (h : i < l.length) : (strCells l)[i]? = some (.string (sg l i)) := by
  simp [strCells, sg, List.getElem?_eq_getElem h]

theorem ByteRow.other {W W' : World} {v vo : Value} {s : ByteArray} {base e size n : Nat} {xs : List Value} (h : ByteRow W v s) (ho : W.ownsRow base e size vo n xs) (he : e ≠ 5) (hg : W.grownBy W' vo.ownBlock) : ByteRow W' v s := by
  rcases h with h | ⟨b, cap, cs, fr, h1, h2, h2', h3, h4⟩
  · exact .inl h
  · refine .inr ⟨b, cap, cs, fr, h1, h2, h2', ?_, h4⟩
    rw [hg.block b (Array.getElem?_eq_some_iff.1 h3).1 ?_]
    · exact h3
    · intro e1
      rcases ho.2 with ⟨rfl, _⟩ | ⟨g', cap', cur, rfl, _, hgg, _⟩
      · simp [Value.ownBlock] at e1
      · simp only [Value.ownBlock, Option.some.injEq] at e1
        subst e1
        rw [h3] at hgg
        simp at hgg
        exact he hgg.2.1.symm

theorem Sc.other {W W' : World} {g : Nat} {E : Pure.Env} {C : Pure.Cfg} {vo : Value} {base n : Nat} {xs : List Value} (h : Sc W g E C) (ho : W.ownsRow base 38 5 vo n xs) (hg : W.grownBy W' vo.ownBlock) : Sc W' g E C := by
  obtain ⟨f, ve, vr, vc, vh, b, hb, hS⟩ := h
  exact ⟨f, ve, vr, vc, vh, b, hb, ⟨far_blk ho hS.m.blk (by decide) hg, ⟨own_other hS.m.l.e ho (by decide) hg, own_other hS.m.l.r ho (by decide) hg, own_other hS.m.l.c ho (by decide) hg⟩⟩, hS.h.other ho (by decide) hg, hS.good, hS.sta⟩
theorem Sc.apart {W W' : World} {g base e size n : Nat} {E : Pure.Env} {C : Pure.Cfg} {v : Value} {xs : List Value} (h : Sc W g E C) (ho : W.ownsRow base e size v n xs) (he : 85 ≠ e) (hg : W.grownBy W' (some g)) : W'.ownsRow base e size v n xs := by
  obtain ⟨f, ve, vr, vc, vh, b, hb, hS⟩ := h
  exact own_apart ho hS.m.blk he hg

def envF (p : Pure.Prg) (m d : Int) (l : List ByteArray) : Pure.Env := (envK p m d l l.length).on noBytes true

/-- all tokens, and the last error -/
def RetTold (g : Nat) (p : Pure.Prg) (m d : Int) (l : List ByteArray) (w : World) (e : Ending) (w' : World) : Prop :=
  ∃ D vo, Pure.Runs (envF p m d l) (cfg0 p) D ∧ e = .returned (.tuple #[vo, .int .i64 D.err]) ∧ w'.ownsRow w.heap.size 38 5 vo D.toks.length (tokCells D.toks) ∧ Sc w' g (envF p m d l) D ∧ w.grownBy w' (some g)

/-- what is carried through told -/
structure Tld (w : World) (g : Nat) (p : Pure.Prg) (E : Pure.Env) (C : Pure.Cfg) (vs vo : Value) (l : List ByteArray) (T : List Pure.Tok) (W : World) : Prop where
  r : Pure.Rch E (cfg0 p) C
  sc : Sc W g E C
  str : W.ownsRow 0 9 1 vs l.length (strCells l)
  own : W.ownsRow w.heap.size 38 5 vo T.length (tokCells T)
  gr : w.grownBy W (some g)

theorem Tld.fed {w : World} {g : Nat} {p : Pure.Prg} {E E' : Pure.Env} {C D : Pure.Cfg} {vs vo : Value} {l : List ByteArray} {T : List Pure.Tok} {W W' : World} (t : Tld w g p E C vs vo l T W) (hr : Pure.Rch E' (cfg0 p) D) (hS : Sc W' g E' D) (hg : W.grownBy W' (some g)) : Tld w g p E' D vs vo l T W' :=
  ⟨hr, hS, t.sc.apart t.str (by decide) hg, t.sc.apart t.own (by decide) hg, Lib.grownBy_trans t.gr hg⟩
theorem Tld.more {w : World} {g : Nat} {p : Pure.Prg} {E : Pure.Env} {C : Pure.Cfg} {vs vo vo' : Value} {l : List ByteArray} {T T' : List Pure.Tok} {W W' : World} (t : Tld w g p E C vs vo l T W) (hg : W.grownBy W' vo.ownBlock) (ho : W'.ownsRow w.heap.size 38 5 vo' T'.length (tokCells T')) : Tld w g p E C vs vo' l T' W' := by
  refine ⟨t.r, t.sc.other t.own hg, own_other t.str t.own (by decide) hg, ho, ?_⟩
  have s1 := t.gr.size
  refine ⟨hg.1.trans t.gr.1, hg.2.trans t.gr.2, hg.3.trans t.gr.3, Nat.le_trans t.gr.size hg.size, fun j hj hne => ?_⟩
  rw [hg.block j (by omega) ?_]
  · exact t.gr.block j hj hne
  · intro e
    have := (World.ownsRow.lt t.own j e.symm).1
    omega

theorem tokCells_app (a b : List Pure.Tok) : tokCells (a ++ b) = tokCells a ++ tokCells b := by simp [tokCells]
theorem tokCells_len (a : List Pure.Tok) : (tokCells a).length = a.length * 5 := by
  induction a with
  | nil => rfl
  | cons x r ih => unfold tokCells at ih ⊢; rw [List.flatMap_cons, List.length_append, ih, List.length_cons]; simp; omega
theorem one_toks (a : List Pure.Tok) : ∀ u ∈ tokCells a, u.oneCell' = true := by
  intro u hu
  unfold tokCells at hu
  rw [List.mem_flatMap] at hu
  obtain ⟨t, _, hu⟩ := hu
  simp at hu
  rcases hu with rfl | rfl | rfl | rfl | rfl <;> rfl

/-- a row that came out: nothing, or its cells -/
theorem own_cases {w : World} {base n : Nat} {v : Value} {T : List Pure.Tok} (h : w.ownsRow base 38 5 v n (tokCells T)) : (v = .slice none 0 0 ∧ T = []) ∨ ∃ b cap, v = .slice (some ⟨b, 0, none⟩) n cap ∧ n = T.length ∧ ∀ j u, (tokCells T)[j]? = some u → w.cell? ((⟨b, 0, none⟩ : Addr).add j) = some u := by
  have hl := h.1
  rw [tokCells_len] at hl
  rcases h.2 with ⟨rfl, h0⟩ | ⟨b, cap, cur, rfl, _⟩
  · exact .inl ⟨rfl, List.eq_nil_of_length_eq_zero (by omega)⟩
  · exact .inr ⟨b, cap, rfl, by omega, fun j u hu => h.cells (g := b) rfl j u hu⟩

set_option maxRecDepth 100000 in
set_option maxHeartbeats 4000000 in
theorem told_any (g : Nat) (p : Pure.Prg) (m d : Int) (vs : Value) (l : List ByteArray) (w : World) (hSc : Sc w g (envK p m d l 0) (cfg0 p)) (hstr : w.ownsRow 0 9 1 vs l.length (strCells l)) (hsum : sumN l l.length ≤ 274877906944) (hl : l.length ≤ 1099511627776) :
    Calls Try.prog 17 #[.pointer (some ⟨g, 0, none⟩), vs] w (RetTold g p m d l w) := by
  obtain ⟨i0, hi, hz0, hz1, hz2⟩ := info_parts Try.info38
  obtain ⟨f0, gd0, st0⟩ := hSc.good
  have GD : Hid (∀ k, Pure.Good (envK p m d l k) f0 ∧ Pure.Sta (envK p m d l k) f0 (cfg0 p)) := fun k => by
    refine ⟨⟨gd0.right, gd0.most, gd0.depth, gd0.f0, gd0.f1⟩, ?_⟩
    induction k with
    | zero => exact st0
    | succ k ih => exact ih.on (sg l k) false
  have T0 : Hid (Tld w g p (envK p m d l 0) (cfg0 p) vs (.slice none 0 0) l [] w) := ⟨.refl _, hSc, hstr, World.ownsRow_nil _ _ _ _, World.grownBy.refl _ _⟩
  obtain ⟨az, cz, rfl, hz1', hz2', -⟩ := own_read hstr
  unfold maxLen at hz2'
  have HSUM := hide hsum
  clear hSc hstr gd0 st0 hsum
  go_enter Try.func17, Try.ntmps17
  go_wp2_with fail
  go_loopg [6, 7] l.length (fun gk ov i wr => ∃ (k : Nat) (C : Pure.Cfg) (vo : Value), k ≤ l.length ∧ gk = l.length - k ∧ vo = ov ∧ i = .int .i64 k ∧ Tld w g p (envK p m d l k) C (.slice az l.length cz) vo l C.toks wr)
  case atStart => exact ⟨0, cfg0 p, _, Nat.zero_le _, rfl, rfl, rfl, T0.out⟩
  case round =>
    clear T0
    obtain ⟨k, C, vo, hkl, rfl, rfl, rfl, hT⟩ := hrel
    have HT := hide hT
    clear hT
    have sk' := HSUM.out
    have stC := HT.out.r.inv (GD.out k).1 (GD.out k).2
    have tl : (C.toks.length : Int) ≤ sumN l k := by
      have h1 := stC.toks
      have h2 := stC.within
      have h3 := stC.looked
      have e : (envK p m d l k).s.size = sumN l k := cat_size l k
      rw [e] at h2
      omega
    clear stC
    by_cases hlt : k < l.length
    · have sk1 := sum_le l (show k + 1 ≤ l.length by omega)
      have es : sumN l (k + 1) = sumN l k + (sg l k).size := rfl
      have hki : (k : Int) < (l.length : Int) := by omega
      obtain ⟨b, cap, hb', hn1, hn2⟩ := own_some HT.out.str (by omega)
      obtain ⟨rfl, rfl⟩ : az = some ⟨b, 0, none⟩ ∧ cz = cap := by simpa using hb'
      have g0 := own_cell HT.out.str (strCells_get l k hlt)
      have FD : Hid (∀ W, Sc W g (envK p m d l k) C → Calls Try.prog 26 #[.pointer (some ⟨g, 0, none⟩), .string (sg l k)] W (RetFed g (envK p m d l (k + 1)) C W)) := fun W hW => feed_any g (envK p m d l k) C (sg l k) W hW rfl (by show (catN l k).size + _ ≤ _; rw [cat_size]; omega)
      clear hb'
      go_wp2_with fail
      refine (FD.out _ HT.out.sc).mono ?_
      rintro e w4 ⟨D, T, vt, hr, ht, rfl, ho, hS4, hg4⟩
      have hrD : Pure.Rch (envK p m d l (k + 1)) (cfg0 p) D := (HT.out.r.on (GD.out k).1 (GD.out k).2 rfl (sg l k) false).trans hr.1
      have stD := hrD.inv (GD.out (k + 1)).1 (GD.out (k + 1)).2
      have tlD : (D.toks.length : Int) ≤ sumN l (k + 1) := by
        have h1 := stD.toks
        have h2 := stD.within
        have h3 := stD.looked
        have e : (envK p m d l (k + 1)).s.size = sumN l (k + 1) := cat_size l (k + 1)
        rw [e] at h2
        omega
      have tlT : C.toks.length + T.length ≤ 274877906944 := by rw [ht, List.length_append] at tlD; omega
      have T4 := hide (HT.out.fed hrD hS4 hg4)
      have HTK := hide ht
      rcases own_cases ho with ⟨rfl, hT0⟩ | ⟨bt', ct, rfl, hTn, hcells⟩
      · clear FD hr ht ho hS4 hg4 hrD stD tlD HT g0
        go_wp2_with (at_builtin; refine wpList_append_own_none rfl (.tmp 27) (.tmp 28) 34 rfl w.heap.size 38 i0 5 Try.underlying34 hi vo C.toks.length (tokCells C.toks) rfl T4.out.own rfl ?_)
        go_roundg (l.length - (k + 1))
        case measure => omega
        case rel =>
          have e5 : D.toks = C.toks := by rw [HTK.out, hT0, List.append_nil]
          exact ⟨k + 1, D, _, by omega, rfl, rfl, by go_num, by rw [e5]; exact T4.out⟩
      · clear FD hr ht ho hS4 hg4 hrD stD tlD HT g0
        go_wp2_with (at_builtin; refine wpList_append_own _ rfl (.tmp 27) (.tmp 28) 34 rfl w.heap.size 38 i0 (.agg #[.int .i64 0, .int .i64 0, .int .i64 0, .int .i64 0, .int .i64 0]) 5 40 Try.underlying34 hi hz0 hz1 hz2 rfl (by decide) vo C.toks.length (tokCells C.toks) rfl T4.out.own ⟨bt', 0, none⟩ T.length ct (tokCells T) rfl (tokCells_len T) hcells (one_toks T) (by unfold maxLen; omega) (by omega) T4.out.gr.size ?_; intro v2 w5 hown2 hgrow2 _)
        have T5 : Hid (Tld w g p (envK p m d l (k + 1)) D (.slice (some ⟨b, 0, none⟩) l.length cz) v2 l D.toks w5) := by
          show Tld _ _ _ _ _ _ _ _ _ _
          rw [HTK.out]
          exact T4.out.more hgrow2 (by rw [tokCells_app, List.length_append]; exact hown2)
        clear hown2 hgrow2 hcells T4
        go_roundg (l.length - (k + 1))
        case measure => omega
        case rel => exact ⟨k + 1, D, _, by omega, rfl, rfl, by go_num, T5.out⟩
    · have hkl' : k = l.length := by omega
      subst hkl'
      have FN : Hid (∀ W, Sc W g (envK p m d l l.length) C → Calls Try.prog 27 #[.pointer (some ⟨g, 0, none⟩)] W (RetFed g (envF p m d l) C W)) := fun W hW => finish_any g _ C W hW rfl (by show (catN l _).size ≤ _; rw [cat_size]; omega)
      go_wp2_with fail
      refine (FN.out _ HT.out.sc).mono ?_
      rintro e w4 ⟨D, T, vt, hr, ht, rfl, ho, hS4, hg4⟩
      have hrD : Pure.Rch (envF p m d l) (cfg0 p) D := (HT.out.r.on (GD.out l.length).1 (GD.out l.length).2 rfl noBytes true).trans hr.1
      have RUN : Hid (Pure.Runs (envF p m d l) (cfg0 p) D) := ⟨hrD, hr.2⟩
      have stD := hrD.inv ((GD.out l.length).1.on noBytes true) ((GD.out l.length).2.on noBytes true)
      have tlD : (D.toks.length : Int) ≤ sumN l l.length := by
        have h1 := stD.toks
        have h2 := stD.within
        have h3 := stD.looked
        have e : ((envK p m d l l.length).on noBytes true).s.size = sumN l l.length := by rw [Pure.on_size]; show (catN l _).size + 0 = _; rw [cat_size, Nat.add_zero]
        rw [e] at h2
        omega
      have tlT : C.toks.length + T.length ≤ 274877906944 := by rw [ht, List.length_append] at tlD; omega
      have T4 := hide (HT.out.fed hrD hS4 hg4)
      have HTK := hide ht
      rcases own_cases ho with ⟨rfl, hT0⟩ | ⟨bt', ct, rfl, hTn, hcells⟩
      · clear FN hr ht ho hS4 hg4 hrD stD tlD HT
        go_wp2_with (at_builtin; refine wpList_append_own_none rfl (.tmp 35) (.tmp 36) 34 rfl w.heap.size 38 i0 5 Try.underlying34 hi vo C.toks.length (tokCells C.toks) rfl T4.out.own rfl ?_)
        go_ret2
        have e5 : D.toks = C.toks := by rw [HTK.out, hT0, List.append_nil]
        exact ⟨D, _, RUN.out, rfl, by rw [e5]; exact T4.out.own, T4.out.sc, T4.out.gr⟩
      · clear FN hr ht ho hS4 hg4 hrD stD tlD HT
        go_wp2_with (at_builtin; refine wpList_append_own _ rfl (.tmp 35) (.tmp 36) 34 rfl w.heap.size 38 i0 (.agg #[.int .i64 0, .int .i64 0, .int .i64 0, .int .i64 0, .int .i64 0]) 5 40 Try.underlying34 hi hz0 hz1 hz2 rfl (by decide) vo C.toks.length (tokCells C.toks) rfl T4.out.own ⟨bt', 0, none⟩ T.length ct (tokCells T) rfl (tokCells_len T) hcells (one_toks T) (by unfold maxLen; omega) (by omega) T4.out.gr.size ?_; intro v2 w5 hown2 hgrow2 _)
        have T5 : Tld w g p (envF p m d l) D (.slice az l.length cz) v2 l D.toks w5 := by
          rw [HTK.out]
          exact T4.out.more hgrow2 (by rw [tokCells_app, List.length_append]; exact hown2)
        go_ret2
        exact ⟨D, _, RUN.out, rfl, T5.own, T5.sc, T5.gr⟩


theorem tokCells_get (l : List Pure.Tok) (t0 : Pure.Tok) : ∀ (i : Nat), i < l.length → (tokCells l)[i * 5]? = some (.int .i64 (l.getD i t0).rule) ∧ (tokCells l)[i * 5 + 1]? = some (.int .i64 (l.getD i t0).pos) ∧ (tokCells l)[i * 5 + 2]? = some (.int .i64 (l.getD i t0).len) ∧ (tokCells l)[i * 5 + 3]? = some (.int .i64 (l.getD i t0).line) ∧ (tokCells l)[i * 5 + 4]? = some (.int .i64 (l.getD i t0).col) := by
  induction l with
  | nil => intro i h; simp at h
  | cons x r ih =>
    intro i h
    have c : tokCells (x :: r) = .int .i64 x.rule :: .int .i64 x.pos :: .int .i64 x.len :: .int .i64 x.line :: .int .i64 x.col :: tokCells r := by simp [tokCells]
    rw [c]
    cases i with
    | zero => simp
    | succ i =>
      have := ih i (by simpa using h)
      have e : ∀ j, (i + 1) * 5 + j = (i * 5 + j) + 1 + 1 + 1 + 1 + 1 := fun j => by omega
      have e' : (i + 1) * 5 = (i * 5) + 1 + 1 + 1 + 1 + 1 := by omega
      rw [e, e, e, e, e']
      simpa using this

def tok0 : Pure.Tok := ⟨0, 0, 0, 0, 0⟩

theorem own_string (W : World) (s : ByteArray) : (W.alloc (.cells #[.string s] 9)).ownsRow 0 9 1 (.slice (some ⟨W.heap.size, 0, none⟩) 1 1) 1 (strCells [s]) :=
  ⟨rfl, .inr ⟨W.heap.size, 1, #[.string s], rfl, Nat.zero_le _, heap_alloc_new W _, Nat.le_refl _, by unfold maxLen; omega, rfl, rfl⟩⟩


theorem Try.info9 : (Try.prog.info? 9).map (fun i => (i.zero, i.size, i.bytes)) = some (some (.string ⟨#[]⟩), 1, 16) := by kernel_rfl

theorem sg_left {l : List ByteArray} {x : ByteArray} {i : Nat} (h : i < l.length) : sg (l ++ [x]) i = sg l i := by
  simp [sg, List.getD_eq_getElem?_getD, List.getElem?_append_left h]
theorem sg_last (l : List ByteArray) (x : ByteArray) : sg (l ++ [x]) l.length = x := by simp [sg]
theorem cat_left {l : List ByteArray} {x : ByteArray} : ∀ (k : Nat), k ≤ l.length → catN (l ++ [x]) k = catN l k
  | 0, _ => rfl
  | k + 1, h => by rw [catN, catN, cat_left k (by omega), sg_left (by omega)]
theorem cat_snoc (l : List ByteArray) (x : ByteArray) : catN (l ++ [x]) (l ++ [x]).length = catN l l.length ++ x := by
  rw [List.length_append, List.length_singleton, catN, cat_left _ (Nat.le_refl _), sg_last]
theorem app_list (a b : ByteArray) : (a ++ b).data.toList = a.data.toList ++ b.data.toList := by simp

theorem strCells_snoc (l : List ByteArray) (x : ByteArray) : strCells (l ++ [x]) = strCells l ++ [.string x] := by simp [strCells]

theorem no_left (s : ByteArray) : noBytes ++ s = s := by apply ByteArray.ext; simp [noBytes]
theorem no_right (s : ByteArray) : s ++ noBytes = s := by apply ByteArray.ext; simp [noBytes]

theorem envF_eq (p : Pure.Prg) (m d : Int) (l : List ByteArray) (s : ByteArray) (h : catN l l.length = s) : envF p m d l = ⟨p, m, d, s, true⟩ := by
  have e : (envF p m d l).s = catN l l.length ++ noBytes := rfl
  rw [no_right, h] at e
  have : envF p m d l = ⟨p, m, d, (envF p m d l).s, true⟩ := rfl
  rw [this, e]


end Go.Proofs.Ytmccnmgaoppogab

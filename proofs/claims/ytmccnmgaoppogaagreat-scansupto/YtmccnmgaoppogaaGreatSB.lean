/-
  The walks: a scanner's small functions. (scan)
  The walks: behind a token. (scan)
-/
import Derived.Test.YtmccnmgaoppogaaGreatSA
namespace Go.Proofs.YtmccnmgaoppogaaGreat
open Go.RowKit

def shut (ended : Bool) (fault : Int) : Int := if fault ≠ 0 then fault else if ended then 8 else 0

def RetSame (v : Value) (w : World) (e : Ending) (w' : World) : Prop := e = .returned v ∧ w' = w
/-- this comes back; nothing old has turned -/
def RetV (v : Value) (w : World) (e : Ending) (w' : World) : Prop := e = .returned v ∧ Below w.heap.size w w'
def RetDrew (v : Value) (w : World) (e : Ending) (w' : World) : Prop := e = .returned v ∧ ∃ n, w' = w.drewN n

set_option maxHeartbeats 1000000 in
theorem closed_any (g : Nat) (E : Pure.Env) (ve vr vc vh : Value) (C : Pure.Cfg) (fault : Int) (w : World) (m : Mach w g E ve vr vc vh C fault) :
    Calls Tryz.prog 103 #[.pointer (some ⟨g, 0, none⟩)] w (RetSame (.int .i64 (shut E.ended fault)) w) := by
  have c25 := m.cell (j := 25) rfl
  have c26 := m.cell (j := 26) rfl
  clear m
  by_cases hf : fault = 0
  · subst hf
    cases hE : E.ended
    · rw [hE] at c25
      go_enter Tryz.func103, Tryz.ntmps103
      go_wp2
      go_ret
      exact ⟨by simp [shut], rfl⟩
    · rw [hE] at c25
      go_enter Tryz.func103, Tryz.ntmps103
      go_wp2
      go_ret
      exact ⟨by simp [shut], rfl⟩
  · have hd : (fault != 0) = true := by simpa using hf
    go_enter Tryz.func103, Tryz.ntmps103
    go_wp2
    go_ret
    exact ⟨by simp [shut, hf], rfl⟩

set_option maxHeartbeats 1000000 in
theorem token_any (g : Nat) (E : Pure.Env) (ve vr vc vh : Value) (C : Pure.Cfg) (fault : Int) (w : World) (m : Mach w g E ve vr vc vh C fault) :
    Calls Tryz.prog 127 #[.pointer (some ⟨g, 0, none⟩)] w (RetV (.agg #[.int .i64 C.rule, .int .i64 C.pos, .int .i64 C.marked, .int .i64 C.line, .int .i64 C.col]) w) := by
  have c5 := m.cell (j := 5) rfl
  have c6 := m.cell (j := 6) rfl
  have c7 := m.cell (j := 7) rfl
  have c22 := m.cell (j := 22) rfl
  have c23 := m.cell (j := 23) rfl
  have hlt := blk_lt m.blk
  have hne : g ≠ w.heap.size := by omega
  clear m
  have hB := hide ((Below.refl w.heap.size w).alloc (Nat.le_refl _) (.cells #[.int .i64 C.rule, .int .i64 C.pos, .int .i64 C.marked, .int .i64 C.line, .int .i64 C.col] 74))
  go_enter Tryz.func127, Tryz.ntmps127
  go_wp2_with fail
  go_region_held3 (fun w' => w'.cell? ⟨g, 5, none⟩ = some (.int .i64 C.pos) ∧ w'.cell? ⟨g, 6, none⟩ = some (.int .i64 C.line) ∧ w'.cell? ⟨g, 7, none⟩ = some (.int .i64 C.col) ∧ w'.cell? ⟨g, 22, none⟩ = some (.int .i64 C.rule) ∧ w'.cell? ⟨g, 23, none⟩ = some (.int .i64 C.marked)) (go_keep) (fail)
  all_goals go_wp2
  all_goals exact bodyPost_ret (v := .agg #[.int .i64 C.rule, .int .i64 C.pos, .int .i64 C.marked, .int .i64 C.line, .int .i64 C.col]) (by simp [results, Tryz.results127, go_sem]) rfl ⟨rfl, hB.out.drew⟩

set_option maxHeartbeats 1000000 in
theorem runState_any (g : Nat) (E : Pure.Env) (ve vr vc : Value) (ah : Option Addr) (nh ch : Nat) (C : Pure.Cfg) (fault : Int) (w : World) (m : Mach w g E ve vr vc (.slice ah nh ch) C fault) (_hh : nh ≤ 9223372036854775807) :
    Calls Tryz.prog 80 #[.pointer (some ⟨g, 0, none⟩)] w (RetV (.agg #[.int .i64 C.pos, .int .i64 C.line, .int .i64 C.col, .int .i64 C.mode, .int .i64 C.dep, .int .i64 nh, .int .i64 C.steps]) w) := by
  have c5 := m.cell (j := 5) rfl
  have c6 := m.cell (j := 6) rfl
  have c7 := m.cell (j := 7) rfl
  have c8 := m.cell (j := 8) rfl
  have c17 := m.cell (j := 17) rfl
  have c18 := m.cell (j := 18) rfl
  have c24 := m.cell (j := 24) rfl
  have hlt := blk_lt m.blk
  have hne : g ≠ w.heap.size := by omega
  clear m
  have hB := hide ((Below.refl w.heap.size w).alloc (Nat.le_refl _) (.cells #[.int .i64 C.pos, .int .i64 C.line, .int .i64 C.col, .int .i64 C.mode, .int .i64 C.dep, .int .i64 nh, .int .i64 C.steps] 130))
  go_enter Tryz.func80, Tryz.ntmps80
  go_wp2_with fail
  go_region_held3 (fun w' => w'.cell? ⟨g, 5, none⟩ = some (.int .i64 C.pos) ∧ w'.cell? ⟨g, 6, none⟩ = some (.int .i64 C.line) ∧ w'.cell? ⟨g, 7, none⟩ = some (.int .i64 C.col) ∧ w'.cell? ⟨g, 8, none⟩ = some (.int .i64 C.mode) ∧ w'.cell? ⟨g, 17, none⟩ = some (.int .i64 C.dep) ∧ w'.cell? ⟨g, 24, none⟩ = some (.slice ah nh ch) ∧ w'.cell? ⟨g, 18, none⟩ = some (.int .i64 C.steps)) (go_keep) (fail)
  all_goals go_wp2
  all_goals exact bodyPost_ret (v := .agg #[.int .i64 C.pos, .int .i64 C.line, .int .i64 C.col, .int .i64 C.mode, .int .i64 C.dep, .int .i64 nh, .int .i64 C.steps]) (by simp [results, Tryz.results80, go_sem]) rfl ⟨rfl, hB.out.drew⟩

set_option maxHeartbeats 1000000 in
theorem state_any (g : Nat) (E : Pure.Env) (ve vr vc : Value) (ah : Option Addr) (nh ch : Nat) (C : Pure.Cfg) (fault : Int) (w : World) (m : Mach w g E ve vr vc (.slice ah nh ch) C fault) (hh : nh ≤ 9223372036854775807) :
    Calls Tryz.prog 52 #[.pointer (some ⟨g, 0, none⟩)] w (RetV (.agg #[.int .i64 C.pos, .int .i64 C.line, .int .i64 C.col, .int .i64 C.mode, .int .i64 C.dep, .int .i64 nh, .int .i64 C.steps]) w) := by
  have M := hide (m.alloc (.cells #[.int .i64 0, .int .i64 0, .int .i64 0, .int .i64 0, .int .i64 0, .int .i64 0, .int .i64 0] 130))
  have hB := hide ((Below.refl w.heap.size w).alloc (Nat.le_refl _) (.cells #[.int .i64 0, .int .i64 0, .int .i64 0, .int .i64 0, .int .i64 0, .int .i64 0, .int .i64 0] 130))
  clear m
  go_enter Tryz.func52, Tryz.ntmps52
  go_wp2_with fail
  refine (runState_any g E ve vr vc ah nh ch C fault _ M.out hh).mono ?_
  rintro e w1 ⟨rfl, hB1⟩
  have b1 := hB.out.trans (hB1.mono (by simp))
  have hz : w.heap.size < w1.heap.size := by have := hB1.size; simp at this; omega
  have k1 : Blk w1 w.heap.size 130 [.int .i64 0, .int .i64 0, .int .i64 0, .int .i64 0, .int .i64 0, .int .i64 0, .int .i64 0] := blk_below (heap_alloc_new w (.cells #[.int .i64 0, .int .i64 0, .int .i64 0, .int .i64 0, .int .i64 0, .int .i64 0, .int .i64 0] 130)) hB1 (by simp)
  have o0 := blk_cell (j := 0) k1 rfl
  have o1 := blk_cell (j := 1) k1 rfl
  have o2 := blk_cell (j := 2) k1 rfl
  have o3 := blk_cell (j := 3) k1 rfl
  have o4 := blk_cell (j := 4) k1 rfl
  have o5 := blk_cell (j := 5) k1 rfl
  have o6 := blk_cell (j := 6) k1 rfl
  have f0 := blk_frozen k1 0
  have f1 := blk_frozen k1 1
  have f2 := blk_frozen k1 2
  have f3 := blk_frozen k1 3
  have f4 := blk_frozen k1 4
  have f5 := blk_frozen k1 5
  have f6 := blk_frozen k1 6
  clear k1 hB1
  go_wp2
  refine bodyPost_ret (v := .agg #[.int .i64 C.pos, .int .i64 C.line, .int .i64 C.col, .int .i64 C.mode, .int .i64 C.dep, .int .i64 nh, .int .i64 C.steps]) (by simp [results, Tryz.results52, go_sem, o0, o1, o2, o3, o4, o5, o6]) rfl ⟨rfl, ?_⟩
  exact ((((((b1.setCell (Nat.le_refl _) _).setCell (Nat.le_refl _) _).setCell (Nat.le_refl _) _).setCell (Nat.le_refl _) _).setCell (Nat.le_refl _) _).setCell (Nat.le_refl _) _).setCell (Nat.le_refl _) _

set_option maxHeartbeats 2000000 in
theorem judge_any (g : Nat) (E : Pure.Env) (ve vr vc vh : Value) (C : Pure.Cfg) (fault : Int) (w : World) (m : Mach w g E ve vr vc vh C fault) (hp : Pure.RightP E.p) (hr : 0 ≤ C.rule ∧ C.rule < E.p.rules.length) :
    Calls Tryz.prog 126 #[.pointer (some ⟨g, 0, none⟩)] w (RetDrew (.int .i64 (Pure.wrong E.p E.depth C)) w) := by
  obtain ⟨-, ⟨gr, cr, rfl, hr1, hr2⟩, -⟩ := m.l.someE hp
  have c1 := m.cell (j := 1) rfl
  have c4 := m.cell (j := 4) rfl
  have c17 := m.cell (j := 17) rfl
  have c22 := m.cell (j := 22) rfl
  have c23 := m.cell (j := 23) rfl
  have q := own_rule m.l.r (i := C.rule.toNat) (by omega)
  have q1 := q.2.1
  have HW : Hid (Pure.wrong E.p E.depth C = if C.marked = 0 then 4 else if (Pure.rg E.p.rules C.rule.toNat).act = 2 ∧ E.depth ≤ C.dep then 6 else if (Pure.rg E.p.rules C.rule.toNat).act = 3 ∧ C.dep = 0 then 7 else 0) := rfl
  obtain ⟨k, hk⟩ := Int.eq_ofNat_of_zero_le hr.1
  rw [hk] at c22 q1 hr HW
  rw [HW.out]
  rw [Int.toNat_natCast] at q1 ⊢
  have hkl : k < E.p.rules.length := by omega
  clear q m hk HW hr
  generalize (Pure.rg E.p.rules k).act = a at *
  generalize E.p.rules.length = nr at *
  generalize C.marked = mk at *
  generalize C.dep = dp at *
  generalize E.depth = dt at *
  by_cases h0 : mk = 0
  · subst h0
    go_enter Tryz.func126, Tryz.ntmps126
    go_wp2
    go_ret
    exact ⟨by simp, 0, rfl⟩
  have d0 : (mk == 0) = false := by simpa using h0
  by_cases h2 : a = 2
  · subst h2
    by_cases hd : dt ≤ dp
    · go_enter Tryz.func126, Tryz.ntmps126
      go_wp2_with fail
      go_quiet (fail)
      go_wp2_with fail
      go_quiet (fail)
      go_wp2
      go_ret
      exact ⟨by simp, _, rfl⟩
    · have hd' : decide (dt ≤ dp) = false := by simpa using hd
      go_enter Tryz.func126, Tryz.ntmps126
      go_wp2_with fail
      go_quiet (fail)
      go_wp2_with fail
      go_quiet (fail)
      go_wp2
      go_ret
      exact ⟨by simp, _, rfl⟩
  have d2 : (a == 2) = false := by simpa using h2
  by_cases h3 : a = 3
  · subst h3
    by_cases hd : dp = 0
    · subst hd
      go_enter Tryz.func126, Tryz.ntmps126
      go_wp2_with fail
      go_quiet (fail)
      go_wp2
      go_ret
      exact ⟨by simp, _, rfl⟩
    · have hd' : (dp == 0) = false := by simpa using hd
      go_enter Tryz.func126, Tryz.ntmps126
      go_wp2_with fail
      go_quiet (fail)
      go_wp2
      go_ret
      exact ⟨by simp, _, rfl⟩
  have d3 : (a == 3) = false := by simpa using h3
  go_enter Tryz.func126, Tryz.ntmps126
  go_wp2_with fail
  go_quiet (fail)
  go_wp2
  go_ret
  exact ⟨by simp, _, rfl⟩

end Go.Proofs.YtmccnmgaoppogaaGreat

namespace Go.Proofs.YtmccnmgaoppogaaGreat
open Go.RowKit

/-- the machine is there, otherwise; nothing else has turned -/
def RetM (v : Value) (g : Nat) (E : Pure.Env) (ve vr vc vh : Value) (C : Pure.Cfg) (fault : Int) (w : World) (e : Ending) (w' : World) : Prop :=
  e = .returned v ∧ Mach w' g E ve vr vc vh C fault ∧ w.grownBy w' (some g)

def passed (b : ByteArray) (k : Nat) (C : Pure.Cfg) : Pure.Cfg := { C with pos := C.pos + k, line := (Pure.adv b 0 k (C.line, C.col)).1, col := (Pure.adv b 0 k (C.line, C.col)).2 }

set_option maxRecDepth 100000 in
set_option maxHeartbeats 2000000 in
theorem pass_any (g : Nat) (E : Pure.Env) (ve vr vc vh : Value) (C : Pure.Cfg) (fault : Int) (b : ByteArray) (w : World) (m : Mach w g E ve vr vc vh C fault)
    (hp : 0 ≤ C.pos ∧ C.pos ≤ 1125899906842624) (hl : 1 ≤ C.line ∧ C.line ≤ 1125899906842624) (hc : 1 ≤ C.col ∧ C.col ≤ 1125899906842624) (hb : b.size ≤ 1125899906842624) :
    Calls Tryz.prog 128 #[.pointer (some ⟨g, 0, none⟩), .string b] w (RetM (.tuple #[]) g E ve vr vc vh (passed b b.size C) fault w) := by
  have M := hide m
  clear m
  go_enter Tryz.func128, Tryz.ntmps128
  go_wp2_with fail
  go_loopw [4] (fun i wr => ∃ k : Nat, k ≤ b.size ∧ i = .int .i64 k ∧ Mach wr g E ve vr vc vh (passed b k C) fault ∧ w.grownBy wr (some g)) (fun i _ => b.size - (intOf i).toNat)
  case atStart => exact ⟨0, Nat.zero_le _, rfl, by have : passed b 0 C = C := by simp [passed, Pure.adv]
                                                   rw [this]; exact M.out, ⟨rfl, rfl, rfl, Nat.le_refl _, fun _ _ _ => rfl⟩⟩
  case round =>
    clear M
    obtain ⟨k, hk, rfl, hm, hg⟩ := hrel
    by_cases hlt : k < b.size
    · have x0 := fun w => idx_str b (k : Int) k rfl hlt w
      have c5 := hm.cell (j := 5) rfl
      have c6 := hm.cell (j := 6) rfl
      have c7 := hm.cell (j := 7) rfl
      have f5 := hm.frozen 5
      have f6 := hm.frozen 6
      have f7 := hm.frozen 7
      have hB := Pure.adv_bd b 0 k (C.line, C.col) hl.1 hc.1
      simp only at hB
      have hk1 : (k : Int) < (b.size : Int) := by omega
      have HK : Hid (Mach wr g E ve vr vc vh { C with pos := C.pos + k, line := (Pure.adv b 0 k (C.line, C.col)).1, col := (Pure.adv b 0 k (C.line, C.col)).2 } fault ∧ w.grownBy wr (some g)) := And.intro hm hg
      have EP : Hid (passed b (k + 1) C = { C with pos := C.pos + k + 1, line := if bt b k = 10 then (Pure.adv b 0 k (C.line, C.col)).1 + 1 else (Pure.adv b 0 k (C.line, C.col)).1, col := if bt b k = 10 then 1 else (Pure.adv b 0 k (C.line, C.col)).2 + 1 }) := by
        show passed b (k + 1) C = _
        unfold passed
        simp only [Pure.adv, Nat.zero_add]
        have e1 : C.pos + ((k + 1 : Nat) : Int) = C.pos + k + 1 := by omega
        rw [e1]
        by_cases h : bt b k = 10
        · simp only [if_pos h]
        · simp only [if_neg h]
      clear hm hg
      unfold passed at c5 c6 c7
      simp only at c5 c6 c7
      generalize (Pure.adv b 0 k (C.line, C.col)).1 = L at *
      generalize (Pure.adv b 0 k (C.line, C.col)).2 = K at *
      generalize bt b k = y at *
      by_cases hy : y = 10
      · subst hy
        go_wp2
        go_roundw
        case rel =>
          refine ⟨k + 1, by omega, by go_num, ?_, ?_⟩
          · rw [EP.out, if_pos rfl, if_pos rfl]
            exact (((HK.out.1.set 5 (.int .i64 (C.pos + k + 1)) E rfl (D := { C with pos := C.pos + k + 1, line := L, col := K }) rfl).set 7 (.int .i64 (K + 1)) E rfl (D := { C with pos := C.pos + k + 1, line := L, col := K + 1 }) rfl).set 6 (.int .i64 (L + 1)) E rfl (D := { C with pos := C.pos + k + 1, line := L + 1, col := K + 1 }) rfl).set 7 (.int .i64 1) E rfl rfl
          · exact grown_set (grown_set (grown_set (grown_set HK.out.2 _ _) _ _) _ _) _ _
        case measure => simp [intOf]; omega
      · have dy : (y == 10) = false := by simpa using hy
        go_wp2
        go_roundw
        case rel =>
          refine ⟨k + 1, by omega, by go_num, ?_, ?_⟩
          · rw [EP.out, if_neg hy, if_neg hy]
            exact (HK.out.1.set 5 (.int .i64 (C.pos + k + 1)) E rfl (D := { C with pos := C.pos + k + 1, line := L, col := K }) rfl).set 7 (.int .i64 (K + 1)) E rfl rfl
          · exact grown_set (grown_set HK.out.2 _ _) _ _
        case measure => simp [intOf]; omega
    · have hkl : k = b.size := by omega
      subst hkl
      have HK := hide (And.intro hm hg)
      clear hm hg
      go_wp2
      go_end0
      exact ⟨rfl, HK.out.1, HK.out.2⟩

def acted (r : Pure.Rule) (C : Pure.Cfg) : Pure.Cfg := { C with mode := Pure.newMode r C, stk := Pure.newStk r C, dep := Pure.newDep r C }

set_option maxRecDepth 100000 in
set_option maxHeartbeats 2000000 in
theorem act_any (g : Nat) (E : Pure.Env) (ve vr vc vh : Value) (C : Pure.Cfg) (fault : Int) (r : Pure.Rule) (w : World) (m : Mach w g E ve vr vc vh C fault)
    (hl : C.stk.length = 8) (hd : 0 ≤ C.dep ∧ C.dep ≤ 8) (h2 : r.act = 2 → C.dep < 8) (h3 : r.act = 3 → 0 < C.dep) :
    Calls Tryz.prog 129 #[.pointer (some ⟨g, 0, none⟩), .agg #[.int .i64 r.emit, .int .i64 r.act, .int .i64 r.mode]] w (RetM (.tuple #[]) g E ve vr vc vh (acted r C) fault w) := by
  obtain ⟨em, a, md⟩ := r
  simp only at *
  obtain ⟨d, hdd⟩ := Int.eq_ofNat_of_zero_le hd.1
  have hlt := blk_lt m.blk
  have hne : g ≠ w.heap.size := by omega
  have hne' : w.heap.size ≠ g := by omega
  have c8 := m.cell (j := 8) rfl
  have c17 := m.cell (j := 17) rfl
  have f8 := m.frozen 8
  have f17 := m.frozen 17
  rw [hdd] at c17 hd h2 h3
  have G0 : Hid (w.grownBy w (some g)) := ⟨rfl, rfl, rfl, Nat.le_refl _, fun _ _ _ => rfl⟩
  have HM := hide m
  by_cases h1 : a = 1
  · subst h1
    have EP : Hid (acted ⟨em, 1, md⟩ C = { C with mode := md }) := by show _ = _; simp [acted, Pure.newMode, Pure.newStk, Pure.newDep]
    rw [EP.out]
    clear m hdd EP
    go_enter Tryz.func129, Tryz.ntmps129
    go_wp2
    go_end0
    exact ⟨rfl, (HM.out.set 8 (.int .i64 md) E rfl rfl).alloc _, grown_alloc (grown_set G0.out _ _) _⟩
  have d1 : (a == 1) = false := by simpa using h1
  by_cases h2' : a = 2
  · subst h2'
    have hd8 := h2 rfl
    have hd8' : d < 8 := by omega
    have fd := m.frozen (9 + d)
    have n1 : ¬ (17 = 9 + d) := by omega
    have n2 : ¬ (8 = 9 + d) := by omega
    have n3 : ¬ (9 + d = 17) := by omega
    have n4 : ¬ (9 + d = 8) := by omega
    have cd := m.cell (j := 9 + d) (runCells_stk hd8')
    have EP : Hid (acted ⟨em, 2, md⟩ C = { C with mode := md, stk := C.stk.set d C.mode, dep := d + 1 }) := by show _ = _; simp [acted, Pure.newMode, Pure.newStk, Pure.newDep, hdd]
    rw [EP.out]
    have M1 := hide (HM.out.set (9 + d) (.int .i64 C.mode) E rfl (runCells_push hd8' hl _))
    have T1 : Hid (∀ o, ((w.setCell ⟨g, 9 + d, none⟩ (.int .i64 C.mode)).alloc o).cell? ⟨g, 17, none⟩ = some (.int .i64 d) ∧ ((w.setCell ⟨g, 9 + d, none⟩ (.int .i64 C.mode)).alloc o).cell? ⟨g, 8, none⟩ = some (.int .i64 C.mode)) := fun o => ⟨(M1.out.alloc o).cell (j := 17) (by show some (Value.int .i64 C.dep) = _; rw [hdd]), (M1.out.alloc o).cell (j := 8) rfl⟩
    clear m hdd EP h2 h3
    go_enter Tryz.func129, Tryz.ntmps129
    go_wp2_with fail
    go_region_held3 (fun w' => w'.cell? ⟨g, 17, none⟩ = some (.int .i64 d) ∧ w'.cell? ⟨g, 8, none⟩ = some (.int .i64 C.mode)) (first | exact T1.out _ | go_keep) (fail)
    clear T1
    all_goals go_wp2
    all_goals go_end0
    all_goals exact ⟨rfl, (((M1.out.set 17 (.int .i64 (d + 1)) E rfl (D := { C with stk := C.stk.set d C.mode, dep := d + 1 }) rfl).set 8 (.int .i64 md) E rfl rfl).alloc _).drew, grown_drew (grown_alloc (grown_set (grown_set (grown_set G0.out _ _) _ _) _ _) _)⟩
  have d2 : (a == 2) = false := by simpa using h2'
  by_cases h3' : a = 3
  · subst h3'
    have hd0 := h3 rfl
    obtain ⟨k, hk⟩ : ∃ k, d = k + 1 := ⟨d - 1, by omega⟩
    subst hk
    have hd8' : k < 8 := by omega
    have cd := m.cell (j := 9 + k) (runCells_stk hd8')
    have i1 : (0 : Int) ≤ (k : Int) := by omega
    have i2 : (k : Int) < 8 := by omega
    have n1 : ¬ (17 = 9 + k) := by omega
    have n2 : ¬ (8 = 9 + k) := by omega
    have n3 : ¬ (9 + k = 17) := by omega
    have n4 : ¬ (9 + k = 8) := by omega
    have EP : Hid (acted ⟨em, 3, md⟩ C = { C with mode := Pure.ig C.stk k, dep := k }) := by
      show _ = _
      have e1 : (C.dep - 1).toNat = k := by omega
      have e2 : C.dep - 1 = k := by omega
      simp [acted, Pure.newMode, Pure.newStk, Pure.newDep, e2]
    rw [EP.out]
    have e3 : ((k + 1 : Nat) : Int) = (k : Int) + 1 := by omega
    rw [e3] at c17
    have M1 := hide (HM.out.set 17 (.int .i64 k) E rfl (D := { C with dep := k }) rfl)
    have M2 := hide (M1.out.set 8 (.int .i64 (Pure.ig C.stk k)) E rfl (D := { C with dep := k, mode := Pure.ig C.stk k }) rfl)
    have T1 : Hid (∀ o, ((w.setCell ⟨g, 17, none⟩ (.int .i64 k)).alloc o).cell? ⟨g, 17, none⟩ = some (.int .i64 k) ∧ ((w.setCell ⟨g, 17, none⟩ (.int .i64 k)).alloc o).cell? ⟨g, 9 + k, none⟩ = some (.int .i64 (Pure.ig C.stk k))) := fun o => ⟨(M1.out.alloc o).cell (j := 17) rfl, (M1.out.alloc o).cell (j := 9 + k) (runCells_stk hd8')⟩
    have T2 : Hid (∀ o, (((w.setCell ⟨g, 17, none⟩ (.int .i64 k)).setCell ⟨g, 8, none⟩ (.int .i64 (Pure.ig C.stk k))).alloc o).cell? ⟨g, 17, none⟩ = some (.int .i64 k) ∧ (((w.setCell ⟨g, 17, none⟩ (.int .i64 k)).setCell ⟨g, 8, none⟩ (.int .i64 (Pure.ig C.stk k))).alloc o).cell? ⟨g, 9 + k, none⟩ = some (.int .i64 (Pure.ig C.stk k))) := fun o => ⟨(M2.out.alloc o).cell (j := 17) rfl, (M2.out.alloc o).cell (j := 9 + k) (runCells_stk hd8')⟩
    clear m hdd EP h2 h3
    go_enter Tryz.func129, Tryz.ntmps129
    go_wp2_with fail
    go_region_held3 (fun w' => w'.cell? ⟨g, 17, none⟩ = some (.int .i64 k) ∧ w'.cell? ⟨g, 9 + k, none⟩ = some (.int .i64 (Pure.ig C.stk k))) (first | exact T1.out _ | exact T2.out _ | go_keep) (fail)
    clear T1 T2
    all_goals go_wp2
    all_goals go_end0
    all_goals exact ⟨rfl, (((HM.out.set 17 (.int .i64 k) E rfl (D := { C with dep := k }) rfl).set 8 (.int .i64 (Pure.ig C.stk k)) E rfl rfl).alloc _).drew, grown_drew (grown_alloc (grown_set (grown_set G0.out _ _) _ _) _)⟩
  have d3 : (a == 3) = false := by simpa using h3'
  have EP : Hid (acted ⟨em, a, md⟩ C = C) := by show _ = _; simp [acted, Pure.newMode, Pure.newStk, Pure.newDep, h1, h2', h3']
  rw [EP.out]
  clear m hdd EP h2 h3
  go_enter Tryz.func129, Tryz.ntmps129
  go_wp2
  go_end0
  exact ⟨rfl, HM.out.alloc _, grown_alloc G0.out _⟩

end Go.Proofs.YtmccnmgaoppogaaGreat

/-
  Tokens that lie one behind the other; the walk: laid. (weirkeep)
  The walks: Tiles. (weirkeep)
  Tiles: the given statement of the second form, proved.
-/
import Derived.Test.YtmccnmgaoppogaaQC
import Derived.Test.YtmccnmgaoppogaaQ4
import Derived.ShutString
namespace Go.Proofs.Ytmccnmgaoppogaa
open Go.RowKit

namespace Pure

theorem adv_two (s : ByteArray) (a : Nat) (q : Int × Int) : ∀ n, adv s a n (adv s 0 a q) = adv s 0 (a + n) q
  | 0 => rfl
  | n + 1 => by
    rw [← Nat.add_assoc]
    simp only [adv]
    rw [adv_two s a q n, Nat.zero_add]

def lenSum (T : List Tok) : Nat → Nat
  | 0 => 0
  | k + 1 => lenSum T k + (T.getD k tok0).len.toNat

structure TileOK (s : ByteArray) (most nr : Int) (T : List Tok) (k : Nat) : Prop where
  pos : (T.getD k tok0).pos = lenSum T k
  len : 1 ≤ (T.getD k tok0).len ∧ (T.getD k tok0).len ≤ most
  rule : 0 ≤ (T.getD k tok0).rule ∧ (T.getD k tok0).rule < nr
  line : (T.getD k tok0).line = (adv s 0 (lenSum T k) (1, 1)).1
  col : (T.getD k tok0).col = (adv s 0 (lenSum T k) (1, 1)).2

structure Tiled (E : Env) (C : Cfg) : Prop where
  all : ∀ k, k < C.toks.length → TileOK E.s E.most E.p.rules.length C.toks k
  pos : C.pos = lenSum C.toks C.toks.length
  lc : (C.line, C.col) = adv E.s 0 C.pos.toNat (1, 1)

theorem look_go_same {E : Env} {C D : Cfg} (h : look E C = .go D) : D.pos = C.pos ∧ D.line = C.line ∧ D.col = C.col ∧ D.toks = C.toks := by
  unfold look at h
  simp only at h
  split at h
  · cases h; split <;> exact ⟨rfl, rfl, rfl, rfl⟩
  split at h
  · split at h
    · split at h <;> cases h
    · split at h
      · cases h
      · cases h; exact ⟨rfl, rfl, rfl, rfl⟩
  split at h
  · cases h; split <;> exact ⟨rfl, rfl, rfl, rfl⟩
  split at h
  · cases h; exact ⟨rfl, rfl, rfl, rfl⟩
  · cases h
theorem look_stop_same {E : Env} {C D : Cfg} {e : Int} (h : look E C = .stop D e) : D.pos = C.pos ∧ D.line = C.line ∧ D.col = C.col ∧ D.toks = C.toks := by
  unfold look at h
  simp only at h
  split at h
  · cases h
  split at h
  · split at h
    · split at h
      · cases h; exact ⟨rfl, rfl, rfl, rfl⟩
      · cases h
    · split at h
      · cases h; exact ⟨rfl, rfl, rfl, rfl⟩
      · cases h
  split at h
  · cases h
  split at h
  · cases h
  · cases h; exact ⟨rfl, rfl, rfl, rfl⟩

theorem getD_left (T : List Tok) (t : Tok) {k : Nat} (h : k < T.length) : (T ++ [t]).getD k tok0 = T.getD k tok0 := by
  rw [List.getD_eq_getElem?_getD, List.getD_eq_getElem?_getD, List.getElem?_append_left h]
theorem getD_last (T : List Tok) (t : Tok) : (T ++ [t]).getD T.length tok0 = t := by simp
theorem lenSum_left (T : List Tok) (t : Tok) : ∀ k, k ≤ T.length → lenSum (T ++ [t]) k = lenSum T k
  | 0, _ => rfl
  | k + 1, h => by rw [lenSum, lenSum, lenSum_left T t k (by omega), getD_left T t (by omega)]

theorem Tiled.like {E : Env} {C D : Cfg} (h : Tiled E C) (hs : D.pos = C.pos ∧ D.line = C.line ∧ D.col = C.col ∧ D.toks = C.toks) : Tiled E D := by
  obtain ⟨h1, h2, h3, h4⟩ := hs
  exact ⟨by rw [h4]; exact h.all, by rw [h1, h4]; exact h.pos, by rw [h2, h3, h1]; exact h.lc⟩

theorem Tiled.mic {E : Env} {f : Nat → Int} (g : Good E f) (hem : ∀ i, i < E.p.rules.length → (rg E.p.rules i).emit = 1) {C D : Cfg} (h : Sta E f C) (t : Tiled E C) (hm : mic E C = some D) : Tiled E D := by
  unfold Pure.mic at hm
  split at hm
  · cases hm
  · rename_i hc
    have he : C.err = 0 := by
      by_cases e : C.err = 0
      · exact e
      · exact absurd (.inl e) hc
    cases hl : look E C with
    | wait => rw [hl] at hm; cases hm
    | go D' => rw [hl] at hm; cases hm; exact t.like (look_go_same hl)
    | stop D' e =>
      rw [hl] at hm
      cases hm
      have q := look_stop g h he hl
      have t' : Tiled E D' := t.like (look_stop_same hl)
      unfold take
      split
      · exact t'.like ⟨rfl, rfl, rfl, rfl⟩
      · split
        · exact t'.like ⟨rfl, rfl, rfl, rfl⟩
        · rename_i hne hw
          have hw0 : wrong E.p E.depth D' = 0 := by omega
          have hmk : 1 ≤ D'.marked := by
            have := q.1.marked
            by_cases e0 : D'.marked = 0
            · unfold wrong at hw0; rw [if_pos e0] at hw0; cases hw0
            · omega
          have hru := q.1.rule
          have hem' := hem D'.rule.toNat (by omega)
          have hlk := q.1.looked
          have hmk2 := q.1.marked
          have hp0 := q.1.pos
          have hT : (took E.p E.s D').toks = D'.toks ++ [⟨D'.rule, D'.pos, D'.marked, D'.line, D'.col⟩] := by unfold took; simp only; rw [if_pos hem']
          have hlc := t'.lc
          have hps := t'.pos
          have elc1 : D'.line = (adv E.s 0 D'.pos.toNat (1, 1)).1 := by rw [← hlc]
          have elc2 : D'.col = (adv E.s 0 D'.pos.toNat (1, 1)).2 := by rw [← hlc]
          refine ⟨?_, ?_, ?_⟩
          · rw [hT]
            intro k hk
            rw [List.length_append, List.length_singleton] at hk
            by_cases hk' : k < D'.toks.length
            · have a := t'.all k hk'
              have e1 := getD_left D'.toks ⟨D'.rule, D'.pos, D'.marked, D'.line, D'.col⟩ hk'
              have e2 := lenSum_left D'.toks ⟨D'.rule, D'.pos, D'.marked, D'.line, D'.col⟩ k (by omega)
              exact ⟨by rw [e1, e2]; exact a.pos, by rw [e1]; exact a.len, by rw [e1]; exact a.rule, by rw [e1, e2]; exact a.line, by rw [e1, e2]; exact a.col⟩
            · have hk2 : k = D'.toks.length := by omega
              subst hk2
              have e1 := getD_last D'.toks ⟨D'.rule, D'.pos, D'.marked, D'.line, D'.col⟩
              have e2 := lenSum_left D'.toks ⟨D'.rule, D'.pos, D'.marked, D'.line, D'.col⟩ D'.toks.length (Nat.le_refl _)
              have e3 : D'.pos.toNat = lenSum D'.toks D'.toks.length := by omega
              refine ⟨by rw [e1, e2]; exact hps, by rw [e1]; exact ⟨hmk, by show D'.marked ≤ _; omega⟩, by rw [e1]; exact hru, ?_, ?_⟩
              · rw [e1, e2, ← e3]; exact elc1
              · rw [e1, e2, ← e3]; exact elc2
          · rw [hT, List.length_append, List.length_singleton, lenSum, lenSum_left _ _ _ (Nat.le_refl _), getD_last]
            show D'.pos + D'.marked = ((lenSum D'.toks D'.toks.length + D'.marked.toNat : Nat) : Int)
            omega
          · show ((adv E.s D'.pos.toNat D'.marked.toNat (D'.line, D'.col)).1, (adv E.s D'.pos.toNat D'.marked.toNat (D'.line, D'.col)).2) = adv E.s 0 (D'.pos + D'.marked).toNat (1, 1)
            rw [hlc, adv_two]
            have e4 : (D'.pos + D'.marked).toNat = D'.pos.toNat + D'.marked.toNat := by omega
            rw [e4]

theorem Tiled.rch {E : Env} {f : Nat → Int} (g : Good E f) (hem : ∀ i, i < E.p.rules.length → (rg E.p.rules i).emit = 1) {C D : Cfg} (r : Rch E C D) (h : Sta E f C) (t : Tiled E C) : Tiled E D := by
  induction r with
  | refl => exact t
  | step r1 h2 ih => exact ih.mic g hem (r1.inv g h) h2

end Pure

def RetLaid (a : Nat) (w : World) (e : Ending) (w' : World) : Prop := e = .returned (.tuple #[.int .i64 a, .bool true]) ∧ Below w.heap.size w w'

theorem lenSum_le (T : List Pure.Tok) : ∀ {a b : Nat}, a ≤ b → Pure.lenSum T a ≤ Pure.lenSum T b := by
  intro a b h
  induction h with
  | refl => exact Nat.le_refl _
  | step _ ih => rw [Pure.lenSum]; omega

set_option maxRecDepth 100000 in
set_option maxHeartbeats 4000000 in
theorem laid_any (va : Value) (T : List Pure.Tok) (s : ByteArray) (most nr : Int) (w : World) (ba : Nat) (ha : w.ownsRow ba 90 5 va T.length (tokCells T)) (hall : ∀ k, k < T.length → Pure.TileOK s most nr T k) (hend : Pure.lenSum T T.length ≤ s.size) (hs : s.size ≤ 1099511627776) (hm : 1 ≤ most ∧ most ≤ 64) (_hn : 1 ≤ nr ∧ nr ≤ 16) :
    Calls Try.prog 28 #[va, .string s, .int .i64 most, .int .i64 nr] w (RetLaid (Pure.lenSum T T.length) w) := by
  have RA : Hid (∀ i, i < T.length → ∃ b cap, va = .slice (some ⟨b, 0, none⟩) T.length cap ∧ b < w.heap.size ∧ w.cell? ⟨b, i * 5, none⟩ = some (.int .i64 (T.getD i tok0).rule) ∧ w.cell? ⟨b, i * 5 + 1, none⟩ = some (.int .i64 (T.getD i tok0).pos) ∧ w.cell? ⟨b, i * 5 + 2, none⟩ = some (.int .i64 (T.getD i tok0).len) ∧ w.cell? ⟨b, i * 5 + 3, none⟩ = some (.int .i64 (T.getD i tok0).line) ∧ w.cell? ⟨b, i * 5 + 4, none⟩ = some (.int .i64 (T.getD i tok0).col)) := fun i hi => by
    obtain ⟨b, cap, rfl, _, _⟩ := own_some ha (by omega)
    have q := tokCells_get T tok0 i hi
    exact ⟨b, cap, rfl, (own_base ha).2, own_cell ha q.1, own_cell ha q.2.1, own_cell ha q.2.2.1, own_cell ha q.2.2.2.1, own_cell ha q.2.2.2.2⟩
  obtain ⟨aa, ca, rfl, ha1, ha2, -⟩ := own_read ha
  unfold maxLen at ha2
  have HALL := hide hall
  have HEND := hide hend
  clear ha hall hend
  go_enter Try.func28, Try.ntmps28
  go_wp2_with fail
  go_loopg [10, 11, 12, 13] T.length (fun gk av lv cv i wr => ∃ k : Nat, k ≤ T.length ∧ gk = T.length - k ∧ av = .int .i64 (Pure.lenSum T k : Int) ∧ lv = .int .i64 (Pure.adv s 0 (Pure.lenSum T k) (1, 1)).1 ∧ cv = .int .i64 (Pure.adv s 0 (Pure.lenSum T k) (1, 1)).2 ∧ i = .int .i64 k ∧ Below w.heap.size w wr)
  case atStart => exact ⟨0, Nat.zero_le _, rfl, rfl, rfl, rfl, rfl, Below.refl _ _⟩
  case round =>
    obtain ⟨k, hk, rfl, rfl, rfl, rfl, rfl, hbel⟩ := hrel
    have hend := HEND.out
    have le1 := lenSum_le T hk
    by_cases hlt : k < T.length
    · obtain ⟨xa, ya, hva, lta, e0, e1, e2, e3, e4⟩ := RA.out k hlt
      obtain ⟨rfl, rfl⟩ : aa = some ⟨xa, 0, none⟩ ∧ ca = ya := by simpa using hva
      have tk := HALL.out k hlt
      rw [tk.pos] at e1
      rw [tk.line] at e3
      rw [tk.col] at e4
      have tl := tk.len
      have tr := tk.rule
      have le2 := lenSum_le T (show k + 1 ≤ T.length by omega)
      have es : Pure.lenSum T (k + 1) = Pure.lenSum T k + (T.getD k tok0).len.toNat := rfl
      generalize (T.getD k tok0).rule = ru at *
      obtain ⟨L, hL⟩ := Int.eq_ofNat_of_zero_le (show 0 ≤ (T.getD k tok0).len by omega)
      rw [hL] at e2 tl es
      rw [Int.toNat_natCast] at es
      have g0 := (hbel.cell (p := ⟨xa, k * 5, none⟩) lta).trans e0
      have g1 := (hbel.cell (p := ⟨xa, k * 5 + 1, none⟩) lta).trans e1
      have g2 := (hbel.cell (p := ⟨xa, k * 5 + 2, none⟩) lta).trans e2
      have g3 := (hbel.cell (p := ⟨xa, k * 5 + 3, none⟩) lta).trans e3
      have g4 := (hbel.cell (p := ⟨xa, k * 5 + 4, none⟩) lta).trans e4
      have hki : (k : Int) < (T.length : Int) := by omega
      have bel1 := hbel.alloc hbel.size (.cells #[.int .i64 ru, .int .i64 (Pure.lenSum T k : Int), .int .i64 L, .int .i64 (Pure.adv s 0 (Pure.lenSum T k) (1, 1)).1, .int .i64 (Pure.adv s 0 (Pure.lenSum T k) (1, 1)).2] 90)
      have BEL := hide bel1
      have KT : Hid (Blk (wr.alloc (.cells #[.int .i64 ru, .int .i64 (Pure.lenSum T k : Int), .int .i64 L, .int .i64 (Pure.adv s 0 (Pure.lenSum T k) (1, 1)).1, .int .i64 (Pure.adv s 0 (Pure.lenSum T k) (1, 1)).2] 90)) wr.heap.size 90 [.int .i64 ru, .int .i64 (Pure.lenSum T k : Int), .int .i64 L, .int .i64 (Pure.adv s 0 (Pure.lenSum T k) (1, 1)).1, .int .i64 (Pure.adv s 0 (Pure.lenSum T k) (1, 1)).2]) := heap_alloc_new _ _
      have ab := Pure.adv_bd s 0 (Pure.lenSum T k) (1, 1) (by decide) (by decide)
      simp only at ab
      have AB : Hid (∀ j, (1 ≤ (Pure.adv s 0 (Pure.lenSum T k + j) (1, 1)).1 ∧ (Pure.adv s 0 (Pure.lenSum T k + j) (1, 1)).1 ≤ 1 + ((Pure.lenSum T k + j : Nat) : Int)) ∧ (1 ≤ (Pure.adv s 0 (Pure.lenSum T k + j) (1, 1)).2 ∧ (Pure.adv s 0 (Pure.lenSum T k + j) (1, 1)).2 ≤ 1 + ((Pure.lenSum T k + j : Nat) : Int))) := fun j => by
        have := Pure.adv_bd s 0 (Pure.lenSum T k + j) (1, 1) (by decide) (by decide)
        simpa using this
      have AV : Hid (∀ j, Pure.adv s 0 (Pure.lenSum T k + (j + 1)) (1, 1) = if bt s (Pure.lenSum T k + j) = 10 then ((Pure.adv s 0 (Pure.lenSum T k + j) (1, 1)).1 + 1, 1) else ((Pure.adv s 0 (Pure.lenSum T k + j) (1, 1)).1, (Pure.adv s 0 (Pure.lenSum T k + j) (1, 1)).2 + 1)) := fun j => by
        rw [← Nat.add_assoc]
        simp only [Pure.adv, Nat.zero_add]
      have A0 : Hid (Pure.adv s 0 (Pure.lenSum T k) (1, 1) = Pure.adv s 0 (Pure.lenSum T k + 0) (1, 1)) := rfl
      have d1 : decide ((L : Int) < 1) = false := decide_eq_false (by omega)
      have d2 : decide (most < (L : Int)) = false := decide_eq_false (by omega)
      have d3 : decide (ru < 0) = false := decide_eq_false (by omega)
      have d4 : decide (nr ≤ ru) = false := decide_eq_false (by omega)
      have ESK := hide es
      clear e0 e1 e2 e3 e4 hva tk bel1 hL es RA HALL
      generalize hA : Pure.lenSum T k = a at *
      have HAP := hide hA
      clear hA A0
      go_wp2_with fail
      generalize wr.alloc (.cells #[.int .i64 ru, .int .i64 (a : Int), .int .i64 L, .int .i64 (Pure.adv s 0 a (1, 1)).1, .int .i64 (Pure.adv s 0 a (1, 1)).2] 90) = W1 at *
      generalize wr.heap.size = gt at *
      have t2 := blk_cell (j := 2) KT.out rfl
      clear KT g0 g1 g2 g3 g4 hbel d1 d2 d3 d4 ab
      go_loopg [10, 11, 12, 15] L (fun gk' av lv cv j wq => ∃ jn : Nat, jn ≤ L ∧ gk' = L - jn ∧ av = .int .i64 ((a + jn : Nat) : Int) ∧ lv = .int .i64 (Pure.adv s 0 (a + jn) (1, 1)).1 ∧ cv = .int .i64 (Pure.adv s 0 (a + jn) (1, 1)).2 ∧ j = .int .i64 jn ∧ wq = W1)
      case atStart => exact ⟨0, Nat.zero_le _, rfl, rfl, rfl, rfl, rfl, rfl⟩
      case round =>
        obtain ⟨jn, hj, rfl, rfl, rfl, rfl, rfl, rfl⟩ := hrel
        have hlen := ESK.out
        by_cases hjl : jn < L
        · have x0 := fun w => idx_str s ((a + jn : Nat) : Int) (a + jn) rfl (by omega) w
          have d5 : decide ((s.size : Int) ≤ ((a + jn : Nat) : Int)) = false := decide_eq_false (by omega)
          have d6 : ((a + jn : Nat) : Int) < (s.size : Int) := by omega
          have hji : (jn : Int) < (L : Int) := by omega
          have bnd := AB.out jn
          have av' := AV.out jn
          have AV' := hide av'
          clear av' hlen
          generalize (Pure.adv s 0 (a + jn) (1, 1)).1 = P1 at *
          generalize (Pure.adv s 0 (a + jn) (1, 1)).2 = P2 at *
          generalize bt s (a + jn) = y at *
          have w1 : IntKind.i64.wrap (((a + jn : Nat) : Int) + 1) = ((a + (jn + 1) : Nat) : Int) := by rw [wrap_in _ (by omega) (by omega)]; omega
          generalize hQ : ((a + jn : Nat) : Int) = Q at *
          by_cases hy : y = 10
          · subst hy
            rw [if_pos rfl] at AV'
            go_wp2
            go_roundg (L - (jn + 1))
            case measure => omega
            case rel => exact ⟨jn + 1, by omega, rfl, rfl, by rw [AV'.out], by rw [AV'.out], by go_num, by first | trivial | rfl⟩
          · have dy : (y == 10) = false := by simpa using hy
            rw [if_neg hy] at AV'
            go_wp2
            go_roundg (L - (jn + 1))
            case measure => omega
            case rel => exact ⟨jn + 1, by omega, rfl, rfl, by rw [AV'.out], by rw [AV'.out], by go_num, by first | trivial | rfl⟩
        · have hjL : jn = L := by omega
          subst hjL
          go_wp2
          go_roundg (T.length - (k + 1))
          case measure => omega
          case rel => exact ⟨k + 1, by omega, rfl, by rw [ESK.out], by rw [ESK.out], by rw [ESK.out], by go_num, BEL.out⟩
    · have hke : k = T.length := by omega
      subst hke
      go_wp2
      go_ret2
      exact ⟨rfl, hbel⟩

end Go.Proofs.Ytmccnmgaoppogaa

namespace Go.Proofs.Ytmccnmgaoppogaa
open Go.RowKit

/-- the rules, the first k of which come out -/
def emK (R : List Pure.Rule) (k : Nat) : List Pure.Rule := (List.range R.length).map (fun j => if j < k then ⟨1, (Pure.rg R j).act, (Pure.rg R j).mode⟩ else Pure.rg R j)
theorem emK_len (R : List Pure.Rule) (k : Nat) : (emK R k).length = R.length := by simp [emK]
theorem emK_get (R : List Pure.Rule) (k : Nat) {i : Nat} (h : i < R.length) : Pure.rg (emK R k) i = if i < k then ⟨1, (Pure.rg R i).act, (Pure.rg R i).mode⟩ else Pure.rg R i := by
  simp [Pure.rg, emK, List.getD_eq_getElem?_getD, h]
theorem emK_zero (R : List Pure.Rule) : emK R 0 = R := by
  apply List.ext_getElem
  · rw [emK_len]
  · intro i h1 h2
    simp [emK, Pure.rg, List.getD_eq_getElem?_getD, h2]
theorem emK_succ (R : List Pure.Rule) (k : Nat) (_h : k < R.length) : (emK R k).set k ⟨1, (Pure.rg R k).act, (Pure.rg R k).mode⟩ = emK R (k + 1) := by
  apply List.ext_getElem
  · rw [List.length_set, emK_len, emK_len]
  · intro i h1 h2
    rw [List.getElem_set]
    by_cases e : k = i
    · subst e; simp [emK]
    · rw [if_neg e]
      have : (i < k) ↔ (i < k + 1) := by omega
      simp [emK, this]

theorem ruleCells_setE (l : List Pure.Rule) : ∀ (i : Nat), i < l.length → ∀ x : Int, (ruleCells l).set (i * 3) (.int .i64 x) = ruleCells (l.set i ⟨x, (Pure.rg l i).act, (Pure.rg l i).mode⟩) := by
  induction l with
  | nil => intro i hi; simp at hi
  | cons y r ih =>
    intro i hi x
    have c : ∀ (z : Pure.Rule) (l' : List Pure.Rule), ruleCells (z :: l') = .int .i64 z.emit :: .int .i64 z.act :: .int .i64 z.mode :: ruleCells l' := fun z l' => by simp [ruleCells]
    cases i with
    | zero => rw [List.set_cons_zero, c, c]; simp [Pure.rg]
    | succ i =>
      have h := ih i (by simpa using hi) x
      have g : Pure.rg (y :: r) (i + 1) = Pure.rg r i := by simp [Pure.rg]
      have e' : (i + 1) * 3 = (i * 3) + 1 + 1 + 1 := by omega
      rw [g, List.set_cons_succ, c, c, e']
      simp only [List.set_cons_succ]
      rw [h]

theorem em_right {p : Pure.Prg} (h : Pure.RightP p) : Pure.RightP { p with rules := emK p.rules p.rules.length } := by
  refine ⟨h.1, ⟨⟨by show 1 ≤ (emK p.rules p.rules.length).length; rw [emK_len]; exact h.2.1.1.1, by show (emK p.rules p.rules.length).length ≤ 16; rw [emK_len]; exact h.2.1.1.2⟩, fun i hi => ?_⟩, ?_, h.2.2.2⟩
  · have hi' : i < p.rules.length := by rw [← emK_len p.rules p.rules.length]; exact hi
    have o := h.2.1.2 i hi'
    show Pure.RuleOK p.ents.length (Pure.rg (emK p.rules p.rules.length) i)
    rw [emK_get _ _ hi', if_pos hi']
    exact ⟨.inr rfl, o.2.1, o.2.2.1, o.2.2.2⟩
  · show Pure.CodeOK p.code (emK p.rules p.rules.length).length
    rw [emK_len]
    exact h.2.2.1

/-- the program while its rules are written over -/
structure Emt (w : World) (gp gR : Nat) (VE VC : Value) (cR : Nat) (p : Pure.Prg) (k : Nat) (W : World) : Prop where
  blk : Blk W gp 26 [VE, .slice (some ⟨gR, 0, none⟩) p.rules.length cR, VC]
  e : W.ownsRow w.heap.size 3 1 VE p.ents.length (intCells p.ents)
  r : W.ownsRow w.heap.size 66 3 (.slice (some ⟨gR, 0, none⟩) p.rules.length cR) p.rules.length (ruleCells (emK p.rules k))
  c : W.ownsRow w.heap.size 103 4 VC p.code.length (insCells p.code)
  bel : Below w.heap.size w W
  new : w.heap.size ≤ gR
  ne : gp ≠ gR

theorem Emt.set {w : World} {gp gR : Nat} {VE VC : Value} {cR : Nat} {p : Pure.Prg} {k : Nat} {W : World} (h : Emt w gp gR VE VC cR p k W) (hk : k < p.rules.length) : Emt w gp gR VE VC cR p (k + 1) (W.setCell ⟨gR, k * 3, none⟩ (.int .i64 1)) := by
  have hg := Lib.grownBy_setCell W gR (k * 3) (.int .i64 1)
  have hob : (Value.slice (some ⟨gR, 0, none⟩) p.rules.length cR).ownBlock = some gR := rfl
  refine ⟨blk_other h.blk h.ne _ _, own_other h.e h.r (by decide) (by rw [hob]; exact hg), ?_, own_other h.c h.r (by decide) (by rw [hob]; exact hg), h.bel.setCell h.new _, h.new, h.ne⟩
  have := own_set (j := k * 3) (u := .int .i64 1) h.r
  rw [ruleCells_setE _ k (by rw [emK_len]; exact hk), emK_get _ _ hk, if_neg (by omega), emK_succ _ _ hk] at this
  exact this

set_option maxRecDepth 100000 in
set_option maxHeartbeats 4000000 in
theorem tiles_any (ve vr vc : Value) (r : Pure.Prg) (most depth : Int) (s : ByteArray) (w : World) (hE : Ints w ve r.ents) (hR : Rules w vr r.rules) (hC : Code w vc r.code) (rE : IntsR r.ents) (rR : RulesR r.rules) (rC : InsR r.code) (rm : Rng most) (rd : Rng depth) (hs : s.size ≤ 137438953472) :
    Calls Try.prog 7 #[.agg #[ve, vr, vc], .int .i64 most, .int .i64 depth, .string s] w (RetTW w) := by
  have P1 : Hid (∀ o, Calls Try.prog 14 #[.agg #[ve, vr, vc]] (w.alloc o) (RetShaped (w.alloc o))) := fun o => by
    have hb := (Below.refl w.heap.size w).alloc (Nat.le_refl _) o
    exact shaped_any ve vr vc r _ (hE.below hb) (hR.below hb) (hC.below hb) rE rR rC
  obtain ⟨ae, ce, rfl, he1, he2, -⟩ := hE.read
  obtain ⟨ar, cr, rfl, hr1, hr2, -⟩ := hR.read
  obtain ⟨ac, cc, rfl, hc1, hc2, -⟩ := hC.read
  have NU := hide (fun W => numbers_any most depth W rm rd)
  have mb := Pure.pk_bd most (n := 64) (by omega)
  have db := Pure.pk_bd depth (n := 9) (by omega)
  have hmm : 1 ≤ 1 + Pure.pk most 64 ∧ 1 + Pure.pk most 64 ≤ 64 := by omega
  have hdd : 0 ≤ Pure.pk depth 9 ∧ Pure.pk depth 9 ≤ 8 := by omega
  generalize 1 + Pure.pk most 64 = m at *
  generalize Pure.pk depth 9 = d at *
  have HMD := hide (And.intro hmm hdd)
  have EV := hide (fun W => every_any s W (by omega))
  have HS := hide hs
  clear hE hR hC rE rR rC rm rd mb db hs
  go_enter Try.func7, Try.ntmps7
  go_wp2_with fail
  refine (P1.out _).mono ?_
  rintro e w1 ⟨p, hp, hlast, VE, VR, VC, rfl, hB1, oE, oR, oC⟩
  have hm := hp.1.1
  have hk := hp.2.1.1
  have hn := hp.2.2.1.1
  obtain ⟨gE, cE, rfl, hE1, hE2⟩ := own_some oE (by omega)
  obtain ⟨gR, cR, rfl, hR1, hR2⟩ := own_some oR (by omega)
  obtain ⟨gC, cC, rfl, hC1, hC2⟩ := own_some oC (by omega)
  have bel1 := bel1 (Below.refl _ _) hB1
  have lo : w.heap.size ≤ (w.alloc (.cells #[.slice ae r.ents.length ce, .slice ar r.rules.length cr, .slice ac r.code.length cc] 26)).heap.size := by simp
  have E2 : Hid (Emt w w1.heap.size gR (.slice (some ⟨gE, 0, none⟩) p.ents.length cE) (.slice (some ⟨gC, 0, none⟩) p.code.length cC) cR p 0 (w1.alloc (.cells #[.slice (some ⟨gE, 0, none⟩) p.ents.length cE, .slice (some ⟨gR, 0, none⟩) p.rules.length cR, .slice (some ⟨gC, 0, none⟩) p.code.length cC] 26))) :=
    ⟨heap_alloc_new _ _, World.ownsRow.alloc (own_mono oE lo) _, by rw [emK_zero]; exact World.ownsRow.alloc (own_mono oR lo) _, World.ownsRow.alloc (own_mono oC lo) _, bel1.alloc bel1.size _, by have := (own_base oR).1; omega, by have := (own_base oR).2; omega⟩
  have HP := hide hp
  clear oE oR oC bel1 hB1 hp hlast P1 lo
  go_wp2_with fail
  generalize w1.heap.size = gp at *
  go_loopg [10] p.rules.length (fun gk i wr => ∃ k : Nat, k ≤ p.rules.length ∧ gk = p.rules.length - k ∧ i = .int .i64 k ∧ Emt w gp gR (.slice (some ⟨gE, 0, none⟩) p.ents.length cE) (.slice (some ⟨gC, 0, none⟩) p.code.length cC) cR p k wr)
  case atStart => exact ⟨0, Nat.zero_le _, rfl, rfl, E2.out⟩
  case round =>
    clear E2
    obtain ⟨k, hkl, rfl, rfl, hT⟩ := hrel
    have HT := hide hT
    have k0 := blk_cell (j := 0) hT.blk rfl
    have k1 := blk_cell (j := 1) hT.blk rfl
    have k2 := blk_cell (j := 2) hT.blk rfl
    clear hT
    by_cases hlt : k < p.rules.length
    · have c0 := (own_rule HT.out.r (i := k) (by rw [emK_len]; exact hlt)).1
      have f0 := own_frozen HT.out.r (k * 3)
      have hki : (k : Int) < (p.rules.length : Int) := by omega
      have NX := hide (HT.out.set hlt)
      clear HT
      go_wp2
      go_roundg (p.rules.length - (k + 1))
      case measure => omega
      case rel => exact ⟨k + 1, by omega, rfl, by go_num, NX.out⟩
    · have hke : k = p.rules.length := by omega
      subst hke
      have HQ := hide (em_right HP.out)
      have ls : (emK p.rules p.rules.length).length = p.rules.length := emK_len _ _
      have I1 := hide (own_ints HT.out.e rfl)
      have I2 := hide (own_rules HT.out.r ls.symm)
      have I3 := hide (own_code HT.out.c rfl)
      have B2 := hide HT.out.bel
      have KB := hide HT.out.blk
      have hemit : Hid (∀ i, i < (emK p.rules p.rules.length).length → (Pure.rg (emK p.rules p.rules.length) i).emit = 1) := fun i hi => by
        rw [ls] at hi
        rw [emK_get _ _ hi, if_pos hi]
      have BG := hide (begun_any _ _ _ { p with rules := emK p.rules p.rules.length } m d wr I1.out I2.out I3.out HQ.out HMD.out.1 HMD.out.2)
      clear I1 I2 I3 HT
      go_wp2_with fail
      refine (NU.out _).mono ?_
      rintro e w2 ⟨rfl, rfl⟩
      clear NU
      go_wp2_with fail
      refine BG.out.mono ?_
      clear BG
      rintro e w4 ⟨gx, rfl, hgx, hB4, hX4⟩
      have X5 := hide (hX4.below ((Below.refl _ _).alloc (Nat.le_refl _) (.cells #[.string s] 9)))
      have B4 := bel0 B2.out hB4
      have B5 := hide (B4.alloc B4.size (.cells #[.string s] 9))
      have KB5 := hide (blk_alloc (blk_below KB.out hB4 (blk_lt KB.out)) (.cells #[.string s] 9))
      have nx : Hid (w.heap.size ≤ gx) := by have := B2.out.size; show _ ≤ _; omega
      have ngp : Hid (gp ≠ gx) := by have := blk_lt KB.out; show gp ≠ gx; omega
      have T5 := hide (told_any gx { p with rules := emK p.rules p.rules.length } m d (.slice (some ⟨w4.heap.size, 0, none⟩) 1 1) [s] _ X5.out (own_string w4 s) (by show 0 + s.size ≤ _; have := HS.out; omega) (by show 1 ≤ _; omega))
      clear k0 k1 k2 B2 KB hgx hB4 hX4 B4
      go_wp2_with fail
      refine T5.out.mono ?_
      clear T5
      rintro e w6 ⟨D, va, hrD, rfl, hoa, hX6, hg6⟩
      have e1s : envF { p with rules := emK p.rules p.rules.length } m d [s] = ⟨{ p with rules := emK p.rules p.rules.length }, m, d, s, true⟩ := envF_eq _ m d [s] s (by show noBytes ++ s = s; exact no_left s)
      rw [e1s] at hrD hX6
      obtain ⟨f, gd, st⟩ := hX6.good
      have st0 : Pure.Sta ⟨{ p with rules := emK p.rules p.rules.length }, m, d, s, true⟩ f (cfg0 { p with rules := emK p.rules p.rules.length }) := by
        have a := (sta0 (p := { p with rules := emK p.rules p.rules.length }) (most := m) (depth := d) (f := f) ⟨gd.right, gd.most, gd.depth, gd.f0, gd.f1⟩).on s true
        have e2 : (env0 { p with rules := emK p.rules p.rules.length } m d).on s true = ⟨{ p with rules := emK p.rules p.rules.length }, m, d, s, true⟩ := by
          show (⟨_, m, d, noBytes ++ s, true⟩ : Pure.Env) = _
          rw [no_left]
          rfl
        rw [e2] at a
        exact a
      have tl0 : Pure.Tiled ⟨{ p with rules := emK p.rules p.rules.length }, m, d, s, true⟩ (cfg0 { p with rules := emK p.rules p.rules.length }) := ⟨fun k hk => by simp [cfg0] at hk, rfl, rfl⟩
      have tl := tl0.rch gd hemit.out hrD.1 st0
      have hpos := tl.pos
      have hwi := st.within
      have hlk := st.looked
      have hp0 := st.pos
      simp only at hwi
      have hend : Pure.lenSum D.toks D.toks.length ≤ s.size := by omega
      have LD := hide (fun W (hW : W.ownsRow 0 90 5 va D.toks.length (tokCells D.toks)) => laid_any va D.toks s m p.rules.length W 0 hW (fun k hk => by have := tl.all k hk; rw [show ((⟨{ p with rules := emK p.rules p.rules.length }, m, d, s, true⟩ : Pure.Env).p.rules.length : Int) = (p.rules.length : Int) from by show ((emK p.rules p.rules.length).length : Int) = _; rw [ls]] at this; exact this) hend (by have := HS.out; omega) HMD.out.1 (by have := HP.out.2.1.1; omega))
      have OK : Hid (D.err = 0 → D.pos = (s.size : Int)) := fun he => end_of st hrD.2 rfl he
      have HLD : Hid ((heldOf ⟨{ p with rules := emK p.rules p.rules.length }, m, d, s, true⟩ D).size = 0) := by
        show _ = _
        by_cases he : D.err = 0
        · rw [held_size he]
          have := end_of st hrD.2 rfl he
          simp only at this ⊢
          omega
        · rw [held_none he]; rfl
      have MD := hide (And.intro st.mode st.dep)
      have HPOS := hide hpos
      have B6 := hide (B5.out.grown hg6 B5.out.size (fun k hk => by cases hk; exact nx.out))
      have KB6 := hide (blk_grown KB5.out hg6 (fun e => ngp.out (by cases e; rfl)))
      have OA : Hid (w6.ownsRow 0 90 5 va D.toks.length (tokCells D.toks)) := own_mono hoa (Nat.zero_le _)
      have X6 := hide hX6
      obtain ⟨xa, ca, rfl, hca1, hca2, -⟩ := own_read hoa
      unfold maxLen at hca2
      have k0 := blk_cell (j := 0) KB6.out rfl
      have k1 := blk_cell (j := 1) KB6.out rfl
      have k2 := blk_cell (j := 2) KB6.out rfl
      clear X5 B5 KB5 hrD hoa hX6 hg6 e1s gd st st0 tl0 tl hpos hwi hlk hp0 hend
      go_wp2_with fail
      refine (LD.out _ OA.out).mono ?_
      clear LD
      rintro e w7 ⟨rfl, hB7⟩
      have X7 := hide (X6.out.below hB7)
      have KB7 := hide (blk_below KB6.out hB7 (blk_lt KB6.out))
      have B7 := hide (bel0 B6.out hB7)
      have ST := hide (scState_any gx ⟨{ p with rules := emK p.rules p.rules.length }, m, d, s, true⟩ D w7 X7.out)
      generalize Pure.lenSum D.toks D.toks.length = N at *
      clear k0 k1 k2 X6 KB6 B6 OA hB7
      go_wp2_with fail
      refine ST.out.mono ?_
      clear ST
      rintro e w8 ⟨rfl, hB8⟩
      unfold stateV
      rw [HLD.out]
      have K8 := blk_below KB7.out hB8 (blk_lt KB7.out)
      have lt8 := blk_lt K8
      have ne8 : gp ≠ w8.heap.size := by omega
      have k0 := blk_cell (j := 0) K8 rfl
      have B8 := hide (bel0 B7.out hB8)
      have B9 := hide (B8.out.alloc B8.out.size (.cells #[.int .i64 (N : Int), .int .i64 D.line, .int .i64 D.col, .int .i64 D.mode, .int .i64 D.dep, .int .i64 ((0 : Nat) : Int), .int .i64 D.steps] 60))
      rw [HPOS.out]
      have md := MD.out
      have d1 : decide (D.mode < 0) = false := decide_eq_false (by omega)
      have d2 : decide ((p.ents.length : Int) ≤ D.mode) = false := decide_eq_false (by have h9 : D.mode < (p.ents.length : Int) := md.1.2; omega)
      have d3 : decide (D.dep < 0) = false := decide_eq_false (by omega)
      have d4 : decide (d < D.dep) = false := decide_eq_false (by have h9 : D.dep ≤ d := md.2.2; omega)
      clear K8 KB7 B7 hB8 X7 MD md HLD
      by_cases hD : D.err = 0
      · have ok := OK.out hD
        rw [HPOS.out] at ok
        have e1 : (D.err == 0) = true := by simp [hD]
        have e2 : ((N : Int) != (s.size : Int)) = false := by simp [ok]
        have HOK := hide ok
        have HD := hide hD
        clear OK hD ok
        go_wp2_with fail
        refine (EV.out _).mono ?_
        rintro e wE ⟨rfl, hBE⟩
        have BE := hide (bel0 B9.out hBE)
        clear EV B9 B8 hBE
        go_wp2
        go_ret
        exact ⟨rfl, BE.out⟩
      · have e1 : (D.err == 0) = false := by simpa using hD
        clear OK hD
        go_wp2_with fail
        refine (EV.out _).mono ?_
        rintro e wE ⟨rfl, hBE⟩
        have BE := hide (bel0 B9.out hBE)
        clear EV B9 B8 hBE
        go_wp2
        go_ret
        exact ⟨rfl, BE.out⟩

end Go.Proofs.Ytmccnmgaoppogaa

namespace Go.Proofs.Ytmccnmgaoppogaa
open Go.ChangeShapes Go.WideShapes Go.ChangeAt Go.RowKit Go.Deep Go.Joins
open Go.ChangeMaps (open_string shut_string)

set_option maxRecDepth 100000 in
theorem tiles_contract (H : Type) (enc : TypeId × Value → H) (W : World) (base : Nat) (args : Array Value) (ds gs : List (DataW H)) (before : List MemPlace)
    (hval0 : ∀ (j : Nat) t v, Try.f7.params[j]? = some t → args[j]? = some v → Value.okWide Try.prog W .any base t v)
    (hW : DataW.Whole enc Try.prog Try.f7.params.toList Rows.tilesSpec.vars false W args.toList ds gs before) (hk : Rows.uptoSmall H (ds ++ gs) = true) :
    Calls Try.prog 7 args W fun e W' => ∃ v, e = .returned v ∧ Rows.tilesSpec.post enc Try.prog Try.f7 false true false false W args v W' := by
  have hval : ∀ (j : Nat) t v, Try.f7.params[j]? = some t → args[j]? = some v → Value.okWide Try.prog W .any base t v := hval0
  have hW' := hW
  obtain ⟨p, q, hA0, hV, rfl, _, _⟩ := hW
  have hA : DataW.TrodAll enc Try.prog W 0 (fun _ => true) true Try.f7.params.toList args.toList ds p := hA0
  rw [Try.params7] at hA hval
  obtain ⟨v0, v1, v2, v3, d0, d1, d2, d3, p0, p1, p2, p3, rfl, rfl, rfl, h0, h1, h2, h3⟩ := trodAll_four hA
  obtain ⟨rfl, rfl⟩ := trodVars_none hV
  obtain ⟨n1, rfl, rfl, rfl, hn1⟩ := open_int Try.underlying3 (hval 1 3 v1 rfl rfl) h1
  obtain ⟨n2, rfl, rfl, rfl, hn2⟩ := open_int Try.underlying3 (hval 2 3 v2 rfl rfl) h2
  obtain ⟨s, rfl, rfl, rfl, hs⟩ := open_string Try.underlying9 (hval 3 9 v3 rfl rfl) h3
  have h0k := h0
  clear hA0 hval0
  simp only [List.append_nil] at hW' hk
  have hlt : ∀ x ∈ p0, x.block < W.heap.size := fun x hx => by simpa using hW'.lt x (by simpa using hx)
  obtain ⟨u0, u1, u2, y0, y1, y2, n, rfl, hd, _, t0, t1, t2⟩ := open_agg3 Try.underlying26 (by kernel_rfl) Try.cells26 (hval 0 26 v0 rfl rfl) h0
  obtain ⟨le, hE, rE⟩ := ints_in t0
  obtain ⟨lr, hR, rR⟩ := rules_in t1
  obtain ⟨lc, hC, rC⟩ := code_in t2
  have hb3 := bulk_part (d := (.lit (.string s.data.toList) : DataW H)) (l := [d0, .lit (.int .i64 n1), .lit (.int .i64 n2), .lit (.string s.data.toList)]) (by simp)
  have hss : Rows.uptoBulk (DataW.lit (.string s.data.toList) : DataW H) = s.size + 1 := by simp [Rows.uptoBulk]
  have hb2 := bulk_small hk
  refine (tiles_any u0 u1 u2 ⟨le, lr, lc⟩ n1 n2 s W hE hR hC rE rR rC (rng_wf hn1) (rng_wf hn2) (by omega)).mono fun e W' ⟨he, hbel⟩ => ?_
  subst he
  refine ⟨_, rfl, _, _, _, [], p0, [], hW', ?_, ?_, rfl, hbel.frame _, fun h => by cases h⟩
  · exact trodAll_mk1 (shut_bool Try.underlying4 true)
  · have a0 := Below.trod Try.laidOut (by kernel_rfl) (of_decide_eq_true (by kernel_rfl)) h0k hbel hlt
    have h4 := trodAll_mk4 a0 (shut_int Try.underlying3 hn1) (shut_int Try.underlying3 hn2) (shut_string Try.underlying9 hs)
    simp only [List.append_nil] at h4
    exact h4

set_option maxRecDepth 100000 in
theorem tiles_lifted (os : Os) (started : os.Started) (H : Type) (enc : TypeId × Value → H) (F : Stop.Interp) :
    ReturnsInHanded {} Try.checked os 7 .any ((Rows.OpenSpec.upto Rows.tilesSpec).pre6 enc Try.prog Try.f7 Rows.tilesUptoRow.domain false) (((Rows.OpenSpec.upto Rows.tilesSpec).at F).post enc Try.prog Try.f7 false true false false) := by
  refine returnsInHanded_of_cond (C := Try.checked) (s := Rows.OpenSpec.upto Rows.tilesSpec) (k := Rows.uptoSmall) rfl Try.own started (by kernel_rfl) Try.func7
    (OpenSpec.witness (enc := enc) (C := Try.checked) (s := Rows.OpenSpec.upto Rows.tilesSpec) (k := Rows.uptoSmall) rfl false ⟨#[], #[.agg #[.slice none 0 0, .slice none 0 0, .slice none 0 0], .int .i64 0, .int .i64 0, .string ⟨#[]⟩], []⟩ 8 (by kernel_rfl) (by kernel_rfl) (by kernel_rfl)
      (x := ([.agg [.nil, .nil, .nil], .lit (.int .i64 0), .lit (.int .i64 0), .lit (.string [])], [], [])) (by kernel_rfl) rfl (by kernel_rfl)) ?_
  intro W base args ds gs before hval hW _ hk _
  exact tiles_contract H enc W base args ds gs before hval hW hk

theorem tiles_holds : Rows.TilesUptoSaid :=
  OpenClaim.holds_of_cond 7 Try.f7 rfl rfl rfl rfl rfl rfl rfl ⟨rfl, rfl, rfl, rfl, rfl⟩ rfl rfl rfl rfl rfl (by kernel_rfl) Try.func7 (by kernel_rfl)
    (of_decide_eq_true (by kernel_rfl)) (by unfold Func.isWrapper; rw [if_neg (by decide +kernel)]; exact ⟨rfl, rfl⟩)
    (fun os started H enc _ F => tiles_lifted os started H enc F)

end Go.Proofs.Ytmccnmgaoppogaa

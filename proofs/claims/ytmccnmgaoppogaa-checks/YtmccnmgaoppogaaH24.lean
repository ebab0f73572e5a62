/-
  The walks: the step of a set. (weirref)
-/
import Derived.Test.YtmccnmgaoppogaaH23
namespace Go.Proofs.Ytmccnmgaoppogaa
open Go.RowKit

theorem Bl.congr {W : World} {g n : Nat} {f f' : Nat → Bool} (h : Bl W g n f) (e : ∀ k, k < n → f k = f' k) : Bl W g n f' := by
  unfold Bl at *
  rw [← bln_congr e]
  exact h
theorem Bl.set {W : World} {g n : Nat} {f : Nat → Bool} (h : Bl W g n f) (k : Nat) (b : Bool) : Bl (W.setCell ⟨g, k, none⟩ (.bool b)) g n (setB f k b) := by
  have := blk_set h k (.bool b)
  rw [bln_set] at this
  exact this
theorem below_set {B g k : Nat} {w W : World} {v : Value} (h : Below B w W) (hg : B ≤ g) (hs : B ≤ W.heap.size) : Below B w (W.setCell ⟨g, k, none⟩ v) :=
  h.grown (Lib.grownBy_setCell W g k v) hs (fun k' e => by cases e; exact hg)

set_option maxRecDepth 100000 in
set_option maxHeartbeats 4000000 in
theorem step_any (B g i0 : Nat) (s : ByteArray) (ns : List Pure.Nd) (vn vl : Value) (modes down : Int) (hn : ns.length ≤ 100000) (gg gf cap gF gS : Nat) (gs : List Nat) (fo : Nat → Nat → Bool) (F S : Nat → Bool) (bg : Bool) (c : Nat) (hc : c < 256) (w : World) (hd : Dr B g s i0 ns vn vl modes down w) (hf : Gf w gg g gf cap ns.length gs fo) (hF : Bl w gF ns.length F) (hS : Bl w gS ns.length S) :
    Calls Try.prog 107 #[.pointer (some ⟨gg, 0, none⟩), rowV gF ns.length, rowV gS ns.length, .bool bg, .int .i64 (c : Int)] w (RetBl ns.length (Pure.stepN ns F fo S bg c) w) := by
  have hmk := make_bool ns.length hn
  obtain ⟨an, cn, rfl, _, _⟩ := own_fm hd.own
  have HD := hide hd
  have HG := hide hf
  have HF := hide hF
  have HS := hide hS
  have B0 : Hid (Below w.heap.size w (w.alloc (.cells (bln ns.length (fun _ => false)).toArray 4))) := (Below.refl _ _).alloc (Nat.le_refl _) _
  have O0 : Hid (Bl (w.alloc (.cells (bln ns.length (fun _ => false)).toArray 4)) w.heap.size ns.length (fun _ => false)) := heap_alloc_new _ _
  have c0 := blk_cell (j := 0) hf.b rfl
  have c1 := blk_cell (j := 1) hd.rb rfl
  clear hd hf hF hS
  go_enter Try.func107, Try.ntmps107
  go_wp2_with fail
  clear c0 c1 hmk
  go_loopg [12, 13] ns.length (fun gk kv _ wx => ∃ (k : Nat), k ≤ ns.length ∧ gk = ns.length - k ∧ kv = .int .i64 k ∧ Below w.heap.size w wx ∧ Bl wx w.heap.size ns.length (fun j => decide (j < k) && Pure.stepN ns F fo S bg c j))
  case atStart => exact ⟨0, Nat.zero_le _, rfl, rfl, B0.out, O0.out.congr (fun k _ => by simp)⟩
  case round =>
    clear B0 O0
    obtain ⟨k, kl, rfl, rfl, hb, ho⟩ := hrel
    have HB := hide hb
    have HO := hide ho
    by_cases hk : k < ns.length
    · have d1 : decide ((k : Int) < (ns.length : Int)) = true := decide_eq_true (by omega)
      have wk : IntKind.i64.wrap ((k : Int) + 1) = (k : Int) + 1 := wrap_in _ (by omega) (by omega)
      have ik0 : (0 : Int) ≤ (k : Int) := by omega
      have ik1 : (k : Int) < (ns.length : Int) := by omega
      have ic0 : (0 : Int) ≤ (c : Int) := by omega
      have ic1 : (c : Int) < 256 := by omega
      obtain ⟨x, hx⟩ : ∃ x, ns[k]? = some x := ⟨_, List.getElem?_eq_getElem hk⟩
      have D2 := HD.out.below hb
      have G2 := HG.out.below hb
      have c0 := blk_cell (j := 0) G2.b rfl
      have c1 := blk_cell (j := 1) D2.rb rfl
      obtain ⟨gn, e1, _, y0, yc⟩ := D2.cell hx
      subst e1
      have y1 := yc c hc
      have TK : Hid (Pure.tkN ns k c = (decide (x.kind = 1) && x.inn c)) := by
        show _ = _
        unfold Pure.tkN
        rw [hx]
      have SKIP : Hid (Pure.tkN ns k c = false → Bl wr w.heap.size ns.length (fun j => decide (j < k + 1) && Pure.stepN ns F fo S bg c j)) := fun e => HO.out.congr (fun j _ => by
        by_cases ej : j = k
        · subst ej
          simp [Pure.stepN, e]
        · rw [show decide (j < k + 1) = decide (j < k) by rw [decide_eq_decide]; omega])
      clear yc hx D2 ho
      by_cases ek : x.kind = 1
      · have ek' : (x.kind : Int) = 1 := by omega
        rw [ek'] at y0
        cases ei : x.inn c with
        | false =>
          have R := hide (SKIP.out (by rw [TK.out, ei, Bool.and_false]))
          rw [ei] at y1
          clear SKIP TK ek ek' ei HO hb G2
          go_wp2
          go_roundg (ns.length - (k + 1))
          case measure => omega
          case rel => exact ⟨k + 1, by omega, rfl, by go_num, HB.out, R.out⟩
        | true =>
          have T2 : Hid (Pure.tkN ns k c = true) := by rw [TK.out, ei, decide_eq_true ek]; rfl
          rw [ei] at y1
          clear SKIP TK ek ek' ei
          have co := blk_cell HO.out (bln_get _ hk)
          have fr := blk_frozen HO.out k
          have sz := HB.out.size
          have cf := blk_cell (blk_below HF.out hb (blk_lt HF.out)) (bln_get F hk)
          cases bg with
          | true =>
            have O2 : Hid (Bl (wr.setCell ⟨w.heap.size, k, none⟩ (.bool (F k))) w.heap.size ns.length (fun j => decide (j < k + 1) && Pure.stepN ns F fo S true c j)) := (HO.out.set k (F k)).congr (fun j _ => by
              unfold setB
              by_cases ej : j = k
              · subst ej
                simp [Pure.stepN, T2.out]
              · rw [if_neg ej, show decide (j < k + 1) = decide (j < k) by rw [decide_eq_decide]; omega])
            have B2 := hide (below_set (k := k) (v := .bool (F k)) hb (Nat.le_refl _) sz)
            clear T2 HO hb G2
            generalize F k = fk at *
            go_wp2
            go_roundg (ns.length - (k + 1))
            case measure => omega
            case rel => exact ⟨k + 1, by omega, rfl, by go_num, B2.out, O2.out⟩
          | false =>
            clear hb G2 cf co fr
            go_wp2_with fail
            go_loopg [13] ns.length (fun gk iv wx => ∃ (i : Nat), i ≤ ns.length ∧ gk = ns.length - i ∧ iv = .int .i64 i ∧ Below w.heap.size w wx ∧ Bl wx w.heap.size ns.length (fun j => (decide (j < k) && Pure.stepN ns F fo S false c j) || (decide (j = k) && (List.range i).any (fun a => S a && fo a k))))
            case atStart => exact ⟨0, Nat.zero_le _, rfl, rfl, HB.out, HO.out.congr (fun j _ => by simp)⟩
            case round =>
              clear HB HO c0 c1 y0 y1
              obtain ⟨i, il, rfl, rfl, hb, ho⟩ := hrel
              have HB := hide hb
              have HO := hide ho
              have sz := HB.out.size
              have VAL : Hid (∀ i, ((decide (k < k) && Pure.stepN ns F fo S false c k) || (decide (k = k) && (List.range i).any (fun a => S a && fo a k))) = (List.range i).any (fun a => S a && fo a k)) := fun i => by simp
              have co := blk_cell ho (bln_get _ hk)
              rw [VAL.out i] at co
              have fr := blk_frozen ho k
              have DONE : Hid ((List.range i).any (fun a => S a && fo a k) = (List.range ns.length).any (fun a => S a && fo a k) → Bl wr w.heap.size ns.length (fun j => decide (j < k + 1) && Pure.stepN ns F fo S false c j)) := fun e => HO.out.congr (fun j _ => by
                by_cases ej : j = k
                · subst ej
                  rw [e]
                  simp [Pure.stepN, T2.out]
                · rw [show decide (j < k + 1) = decide (j < k) by rw [decide_eq_decide]; omega, decide_eq_false ej, Bool.false_and, Bool.or_false])
              by_cases hi : i < ns.length
              · have d2 : decide ((i : Int) < (ns.length : Int)) = true := decide_eq_true (by omega)
                cases ea : (List.range i).any (fun a => S a && fo a k) with
                | true =>
                  have R := hide (DONE.out (by
                    rw [ea]
                    symm
                    rw [List.any_eq_true] at *
                    obtain ⟨a, h1, h2⟩ := ea
                    exact ⟨a, List.mem_range.2 (by have := List.mem_range.1 h1; omega), h2⟩))
                  rw [ea] at co
                  clear DONE VAL HO ho hb ea T2
                  go_wp2
                  go_roundg (ns.length - (k + 1))
                  case measure => omega
                  case rel => exact ⟨k + 1, by omega, rfl, by go_num, HB.out, R.out⟩
                | false =>
                  rw [ea] at co
                  have G2 := HG.out.below hb
                  have cs := blk_cell (blk_below HS.out hb (blk_lt HS.out)) (bln_get S hi)
                  obtain ⟨gi, hgi⟩ : ∃ g, gs[i]? = some g := ⟨_, List.getElem?_eq_getElem (by rw [G2.len]; exact hi)⟩
                  have c0 := blk_cell (j := 1) G2.b rfl
                  have cg := own_cell G2.own (blsC_get hgi)
                  have cr := blk_cell (G2.row i gi hgi) (bln_get _ hk)
                  have wi : IntKind.i64.wrap ((i : Int) + 1) = (i : Int) + 1 := wrap_in _ (by omega) (by omega)
                  have ii0 : (0 : Int) ≤ (i : Int) := by omega
                  have ii1 : (i : Int) < (ns.length : Int) := by omega
                  have O2 : Hid (Bl (wr.setCell ⟨w.heap.size, k, none⟩ (.bool (S i && fo i k))) w.heap.size ns.length (fun j => (decide (j < k) && Pure.stepN ns F fo S false c j) || (decide (j = k) && (List.range (i + 1)).any (fun a => S a && fo a k)))) := (HO.out.set k (S i && fo i k)).congr (fun j _ => by
                    unfold setB
                    by_cases ej : j = k
                    · subst ej
                      rw [if_pos rfl, List.range_succ, List.any_append, ea]
                      simp
                    · rw [if_neg ej]; simp [ej])
                  have B2 := hide (below_set (k := k) (v := .bool (S i && fo i k)) hb (Nat.le_refl _) sz)
                  clear DONE VAL HO HB ho hb ea T2 G2
                  cases eS : S i with
                  | false =>
                    rw [eS] at cs O2 B2
                    rw [Bool.false_and] at O2 B2
                    clear eS
                    go_wp2
                    go_roundg (ns.length - (i + 1))
                    case measure => omega
                    case rel => exact ⟨i + 1, by omega, rfl, by go_num, B2.out, O2.out⟩
                  | true =>
                    rw [eS] at cs O2 B2
                    rw [Bool.true_and] at O2 B2
                    clear eS
                    go_wp2
                    go_roundg (ns.length - (i + 1))
                    case measure => omega
                    case rel => exact ⟨i + 1, by omega, rfl, by go_num, B2.out, O2.out⟩
              · have d2 : decide ((i : Int) < (ns.length : Int)) = false := decide_eq_false (by omega)
                have e : i = ns.length := by omega
                have R := hide (DONE.out (by rw [e]))
                clear DONE VAL HO ho hb T2 co
                go_wp2
                go_roundg (ns.length - (k + 1))
                case measure => omega
                case rel => exact ⟨k + 1, by omega, rfl, by go_num, HB.out, R.out⟩
      · have R := hide (SKIP.out (by rw [TK.out, decide_eq_false ek, Bool.false_and]))
        have ek1 : decide ((x.kind : Int) = 1) = false := decide_eq_false (by omega)
        have ek2 : ((x.kind : Int) == 1) = false := by simp; omega
        have ek3 : ((x.kind : Int) != 1) = true := by simp; omega
        have ek4 : decide ((x.kind : Int) ≠ 1) = true := decide_eq_true (by omega)
        clear SKIP TK ek HO hb G2
        generalize (x.kind : Int) = kv at *
        go_wp2
        go_roundg (ns.length - (k + 1))
        case measure => omega
        case rel => exact ⟨k + 1, by omega, rfl, by go_num, HB.out, R.out⟩
    · have d1 : decide ((k : Int) < (ns.length : Int)) = false := decide_eq_false (by omega)
      have R : Hid (Bl wr w.heap.size ns.length (Pure.stepN ns F fo S bg c)) := ho.congr (fun j hj => by rw [decide_eq_true (by omega), Bool.true_and])
      clear HO ho hb
      go_wp2
      go_ret
      exact ⟨_, rfl, HB.out, Nat.le_refl _, R.out⟩

end Go.Proofs.Ytmccnmgaoppogaa

/-
  The walks: the document's took. (weirref)
-/
import Derived.Test.YtmccnmgaoppogaaGreatD3
namespace Go.Proofs.YtmccnmgaoppogaaGreat
open Go.RowKit

def RetTk (B : Nat) (w0 : World) (gr gs : Nat) (E : Pure.Env) (ve vr vc : Value) (rest : List Value) (C : Pure.Cfg) (e : Ending) (w' : World) : Prop :=
  e = .returned (.tuple #[]) ∧ ∃ vst vtk, TR B w0 gr gs E ve vr vc rest C vst vtk w'

theorem own_form {w : World} {base e size n : Nat} {v : Value} {xs : List Value} (h : w.ownsRow base e size v n xs) : ∃ ao cap, v = .slice ao n cap ∧ n ≤ cap ∧ cap ≤ 9223372036854775807 := by
  rcases h.2 with ⟨rfl, rfl⟩ | ⟨g, cap, cur, rfl, _, _, h5, h6, _⟩
  · exact ⟨none, 0, rfl, Nat.le_refl _, by omega⟩
  · exact ⟨_, cap, rfl, h5, by unfold maxLen at h6; exact h6⟩

theorem take_set (l : List Int) (d : Nat) (x : Int) (h : d < l.length) : (l.set d x).take (d + 1) = l.take d ++ [x] := by
  rw [List.take_add_one, List.take_set_of_le (Nat.le_refl _), List.getElem?_set_self h]
  rfl

theorem int_beq (a b : Int) : (a == b) = decide (a = b) := by
  by_cases h : a = b
  · simp [h]
  · rw [decide_eq_false h]; simpa using h
theorem blk_ne' {w : World} {g g' t t' : Nat} {xs ys : List Value} (h : Blk w g t xs) (h' : Blk w g' t' ys) (ht : t ≠ t') : g ≠ g' := by
  intro e
  subst e
  unfold Blk at h h'
  rw [h] at h'
  simp at h'
  exact ht h'.2

set_option maxRecDepth 100000 in
set_option maxHeartbeats 4000000 in
theorem took_any (f : Nat → Int) (B : Nat) (w0 : World) (gr gs : Nat) (E : Pure.Env) (ve vr vc : Value) (rest : List Value) (C : Pure.Cfg) (vst vtk : Value) (w : World) (gd : Pure.Good E f) (hh : Pure.Held E C) (hm : 0 < C.marked) (he : C.err = 0) (hs : E.s.size ≤ 1099511627776) (h : TR B w0 gr gs E ve vr vc rest C vst vtk w) :
    Calls Tryz.prog 132 #[.pointer (some ⟨gr, 0, none⟩), .int .i64 C.rule, .int .i64 C.marked] w (RetTk B w0 gr gs E ve vr vc rest (Pure.take E C 0)) := by
  obtain ⟨⟨ge, ce, rfl, he1, he2⟩, ⟨gv, cv, rfl, hr1, hr2⟩, -⟩ := h.m.l.someE gd.right
  obtain ⟨i0, hi, hz0, hz1, hz2⟩ := info_parts Tryz.info74
  obtain ⟨i3, hi3, h30, h31, h32⟩ := info_parts Tryz.info3
  obtain ⟨k, hk⟩ := Int.eq_ofNat_of_zero_le hh.rule.1
  obtain ⟨n, hn⟩ := Int.eq_ofNat_of_zero_le hh.marked.1
  obtain ⟨dn, hdn⟩ := Int.eq_ofNat_of_zero_le hh.dep.1
  obtain ⟨p, hp⟩ := Int.eq_ofNat_of_zero_le hh.pos
  obtain ⟨ao, cp, rfl, hc1, hc2⟩ := own_form h.st
  have hkr : k < E.p.rules.length := by have := hh.rule.2; omega
  have hn0 : 0 < n := by omega
  have hd8 : dn ≤ 8 := by have := hh.dep.2; have := gd.depth; omega
  have hwi : p + n ≤ E.s.size := by have := hh.within; have := hh.marked; omega
  have hdt : C.dep.toNat = dn := by omega
  have RU := hide (fun W m => refRule_any gr gs gv cv E (.slice (some ⟨ge, 0, none⟩) E.p.ents.length ce) vc rest C (.slice ao C.dep.toNat cp) vtk k W m hkr)
  have H0 := hide h
  have GD := hide gd
  have HH := hide hh
  have HE := hide he
  have HN : Hid (C.rule = k ∧ C.marked = n ∧ C.dep = dn ∧ C.pos = p) := ⟨hk, hn, hdn, hp⟩
  have ok := gd.right.2.1.2 k hkr
  rw [hk, hn]
  clear h gd hh he hk hn hm hp hdn
  rw [hdt] at RU H0 hc1
  clear hdt
  generalize hR : Pure.rg E.p.rules k = r at *
  have HR := hide hR
  clear hR
  go_enter Tryz.func132, Tryz.ntmps132
  go_wp2_with fail
  refine (RU.out _ H0.out.m).mono ?_
  clear RU
  rintro e w1 ⟨rfl, hb1⟩
  unfold ruleA
  have H1 := hide ((H0.out.below hb1).alloc (.cells #[.int .i64 r.emit, .int .i64 r.act, .int .i64 r.mode] 59))
  have KX : Hid (Blk (w1.alloc (.cells #[.int .i64 r.emit, .int .i64 r.act, .int .i64 r.mode] 59)) w1.heap.size 59 [.int .i64 r.emit, .int .i64 r.act, .int .i64 r.mode]) := heap_alloc_new _ _
  have hxB : B ≤ w1.heap.size := (H0.out.below hb1).sz
  clear H0 hb1
  go_wp2_with fail
  generalize w1.alloc (.cells #[.int .i64 r.emit, .int .i64 r.act, .int .i64 r.mode] 59) = W1 at *
  generalize w1.heap.size = gx at *
  have x1 := blk_cell (j := 1) KX.out rfl
  have c0 := blk_cell (j := 0) H1.out.m.blk rfl
  have c5 := blk_cell (j := 5) H1.out.m.blk rfl
  have s5 := blk_cell (j := 5) H1.out.m.scn rfl
  go_cut [29] from 9 (fun tv wx => tv = .bool (decide (r.act = 2 ∧ (dn : Int) = E.depth)) ∧ ∃ nq, wx = W1.drewN nq)
  case first =>
    by_cases a2 : r.act = 2
    · rw [a2] at x1
      go_quiet (fail)
      go_wp2
      go_meet
      case rel => exact ⟨by simp [a2, int_beq], _, rfl⟩
    · have d1 : (r.act == 2) = false := by simpa using a2
      go_quiet (fail)
      go_wp2
      go_meet
      case rel => exact ⟨by simp [a2], _, rfl⟩
  case rest =>
    obtain ⟨rfl, nq, rfl⟩ := hcut
    have H2 := hide (H1.out.drewN nq)
    have KX2 : Hid (Blk (W1.drewN nq) gx 59 [.int .i64 r.emit, .int .i64 r.act, .int .i64 r.mode]) := KX.out
    clear x1 c0 c5 s5 H1 KX
    generalize W1.drewN nq = W2 at *
    have x1 := blk_cell (j := 1) KX2.out rfl
    have c5 := blk_cell (j := 5) H2.out.m.blk rfl
    have c8 := blk_cell (j := 8) H2.out.m.blk rfl
    have f8 := blk_frozen H2.out.m.blk 8
    by_cases t1 : r.act = 2 ∧ (dn : Int) = E.depth
    · have WR : Hid (Pure.take E C 0 = { C with err := 6 }) := by
        show _ = _
        have z : Pure.wrong E.p E.depth C = 6 := by
          unfold Pure.wrong
          rw [if_neg (by have := HN.out.2.1; omega), HN.out.1, Int.toNat_natCast, HR.out, if_pos ⟨t1.1, by have := HN.out.2.2.1; omega⟩]
        unfold Pure.take
        rw [if_neg (by omega), z, if_pos (by omega)]
      have F1 := hide (H2.out.set 8 (.int .i64 6) (D := { C with err := 6 }) rfl rfl rfl rfl)
      rw [decide_eq_true t1]
      clear t1
      go_wp2
      exact bodyPost_ret (v := .tuple #[]) (by simp [results, Tryz.results132, go_sem]) rfl ⟨rfl, _, _, by rw [WR.out]; exact F1.out⟩
    rw [decide_eq_false t1]
    go_upto_region 3 with (fail)
    go_cut [43] from 9 (fun tv wx => tv = .bool (decide (r.act = 3 ∧ dn = 0)) ∧ wx = W2)
    case first =>
      by_cases a3 : r.act = 3
      · rw [a3] at x1
        go_wp2
        go_meet
        case rel => exact ⟨by simp [a3, int_beq], rfl⟩
      · have d1 : (r.act == 3) = false := by simpa using a3
        go_wp2
        go_meet
        case rel => exact ⟨by simp [a3], rfl⟩
    case rest =>
      obtain ⟨rfl, rfl⟩ := hcut
      by_cases t2 : r.act = 3 ∧ dn = 0
      · have WR : Hid (Pure.take E C 0 = { C with err := 7 }) := by
          show _ = _
          have z : Pure.wrong E.p E.depth C = 7 := by
            unfold Pure.wrong
            rw [if_neg (by have := HN.out.2.1; omega), HN.out.1, Int.toNat_natCast, HR.out, if_neg (by omega), if_pos ⟨t2.1, by have := HN.out.2.2.1; omega⟩]
          unfold Pure.take
          rw [if_neg (by omega), z, if_pos (by omega)]
        have F1 := hide (H2.out.set 8 (.int .i64 7) (D := { C with err := 7 }) rfl rfl rfl rfl)
        rw [decide_eq_true t2]
        clear t2
        go_wp2
        exact bodyPost_ret (v := .tuple #[]) (by simp [results, Tryz.results132, go_sem]) rfl ⟨rfl, _, _, by rw [WR.out]; exact F1.out⟩
      rw [decide_eq_false t2]
      have TK : Hid (Pure.take E C 0 = Pure.took E.p E.s C) := by
        show _ = _
        have z : Pure.wrong E.p E.depth C = 0 := by
          have h1 := HH.out.dep.2
          have h2 := HN.out.2.2.1
          unfold Pure.wrong
          rw [if_neg (by have := HN.out.2.1; omega), HN.out.1, Int.toNat_natCast, HR.out, if_neg (by omega), if_neg (by omega)]
        unfold Pure.take
        rw [if_neg (by omega), z, if_neg (by omega)]
      have T1 : Hid (r.act = 2 → (dn : Int) < E.depth) := fun a => by have h1 := HH.out.dep.2; have h2 := HN.out.2.2.1; omega
      have T2 : Hid (r.act = 3 → 0 < dn) := fun a => by omega
      clear t1 t2 x1 c5 c8 f8
      have x0 := blk_cell (j := 0) KX2.out rfl
      have xne : gx ≠ gr := blk_ne' KX2.out H2.out.m.blk (by decide)
      go_upto_if 49 with (fail)
      go_cut [] from 9 (fun wx => ∃ vtk', TR B w0 gr gs E (.slice (some ⟨ge, 0, none⟩) E.p.ents.length ce) (.slice (some ⟨gv, 0, none⟩) E.p.rules.length cv) vc rest { C with toks := if r.emit = 1 then C.toks ++ [⟨C.rule, C.pos, C.marked, C.line, C.col⟩] else C.toks } (.slice ao dn cp) vtk' wx ∧ Blk wx gx 59 [.int .i64 r.emit, .int .i64 r.act, .int .i64 r.mode])
      case first =>
        rcases ok.1 with hem | hem
        · rw [hem]
          go_wp2
          go_meet
          case rel => exact ⟨vtk, by rw [hem]; exact H2.out, KX2.out⟩
        · rw [hem]
          have c7 := blk_cell (j := 7) H2.out.m.blk rfl
          have c1 := blk_cell (j := 1) H2.out.m.blk (u := .int .i64 p) (by rw [← HN.out.2.2.2]; rfl)
          have c2 := blk_cell (j := 2) H2.out.m.blk rfl
          have c3 := blk_cell (j := 3) H2.out.m.blk rfl
          have tlen : C.toks.length ≤ 1099511627776 := by have := HH.out.toks; have := HN.out.2.2.2; omega
          have gl2 := blk_lt H2.out.m.blk
          have hsz := H2.out.sz
          have ne1 : gr ≠ wc.heap.size := by omega
          have ne2 : wc.heap.size ≠ gr := by omega
          go_wp2_with fail
          have S1 : wc.drew.cell? ⟨gr, 1, none⟩ = some (.int .i64 p) ∧ wc.drew.cell? ⟨gr, 2, none⟩ = some (.int .i64 C.line) ∧ wc.drew.cell? ⟨gr, 3, none⟩ = some (.int .i64 C.col) := ⟨c1, c2, c3⟩
          refine wp_region_held_drew (S := fun w' => w'.cell? ⟨gr, 1, none⟩ = some (.int .i64 p) ∧ w'.cell? ⟨gr, 2, none⟩ = some (.int .i64 C.line) ∧ w'.cell? ⟨gr, 3, none⟩ = some (.int .i64 C.col)) (by kernel_rfl) S1 (fun hHeld => ?_)
          refine wpAnyH_take (i := 0) (v := ?v0) rfl (by kernel_rfl) (by kernel_rfl) (by kernel_rfl) (fun _ _ _ h => h) (Or.inl ⟨by rfl, ?hy0⟩) (by assumption) ?rest0
          case hy0 => (intro w hSw; (try dsimp only at hSw); go_simp; try (with_reducible rfl))
          try simp only [Act.put, List.setIfInBounds_toArray]
          refine wpAnyH_take (i := 1) (v := ?v1) rfl (by kernel_rfl) (by kernel_rfl) (by kernel_rfl) (fun _ _ _ h => h) (Or.inl ⟨by rfl, ?hy1⟩) (by assumption) ?rest1
          case hy1 => (intro w hSw; (try dsimp only at hSw); go_simp; try (with_reducible rfl))
          try simp only [Act.put]
          refine wpAnyH_take (i := 2) (v := ?v2) rfl (by kernel_rfl) (by kernel_rfl) (by kernel_rfl) (fun _ _ _ h => h) (Or.inl ⟨by rfl, ?hy2⟩) (by assumption) ?rest2
          case hy2 => (intro w hSw; (try dsimp only at hSw); go_simp; try (with_reducible rfl))
          try simp only [Act.put]
          refine wpAnyH_take (i := 3) (v := ?v3) rfl (by kernel_rfl) (by kernel_rfl) (by kernel_rfl) (fun _ _ _ h => h) (Or.inl ⟨by rfl, ?hy3⟩) (by assumption) ?rest3
          case hy3 => (intro w hSw; (try dsimp only at hSw); go_simp; try (with_reducible rfl))
          try simp only [Act.put]
          refine wpAnyH_take (i := 5) (v := ?v5) rfl (by kernel_rfl) (by kernel_rfl) (by kernel_rfl) (fun _ _ _ h => h) (Or.inl ⟨by rfl, ?hy5⟩) (by assumption) ?rest5
          case hy5 => (intro w hSw; (try dsimp only at hSw); go_simp; try (with_reducible rfl))
          try simp only [Act.put]
          refine wpAnyH_take (i := 6) (v := ?v6) rfl (by kernel_rfl) (by kernel_rfl) (by kernel_rfl) (fun _ _ _ h => h) (Or.inl ⟨by rfl, ?hy6⟩) (by assumption) ?rest6
          case hy6 => (intro w hSw; (try dsimp only at hSw); go_simp; try (with_reducible rfl))
          try simp only [Act.put]
          refine wpAnyH_take (i := 7) (v := ?v7) rfl (by kernel_rfl) (by kernel_rfl) (by kernel_rfl) (fun _ _ _ h => h) (Or.inl ⟨by rfl, ?hy7⟩) (by assumption) ?rest7
          case hy7 => (intro w hSw; (try dsimp only at hSw); go_simp; try (with_reducible rfl))
          try simp only [Act.put]
          refine wpAnyH_take (i := 8) (v := ?v8) rfl (by kernel_rfl) (by kernel_rfl) (by kernel_rfl) (fun _ _ _ h => h) (Or.inl ⟨by rfl, ?hy8⟩) (by assumption) ?rest8
          case hy8 => (intro w hSw; (try dsimp only at hSw); go_simp; try (with_reducible rfl))
          try simp only [Act.put]
          refine wpAnyH_take (i := 9) (v := ?v9) rfl (by kernel_rfl) (by kernel_rfl) (by kernel_rfl) (fun _ _ _ h => h) (Or.inl ⟨by rfl, ?hy9⟩) (by assumption) ?rest9
          case hy9 => (intro w hSw; (try dsimp only at hSw); go_simp; try (with_reducible rfl))
          try simp only [Act.put]
          refine wpAnyH_take (i := 10) (v := ?v10) rfl (by kernel_rfl) (by kernel_rfl) (by kernel_rfl) (fun _ _ _ h => h) (Or.inl ⟨by rfl, ?hy10⟩) (by assumption) ?rest10
          case hy10 => (intro w hSw; (try dsimp only at hSw); go_simp; try (with_reducible rfl))
          try simp only [Act.put]
          refine wpAnyH_take (i := 11) (v := ?v11) rfl (by kernel_rfl) (by kernel_rfl) (by kernel_rfl) (fun _ _ _ h => h) (Or.inl ⟨by rfl, ?hy11⟩) (by assumption) ?rest11
          case hy11 => (intro w hSw; (try dsimp only at hSw); go_simp; try (with_reducible rfl))
          try simp only [Act.put]
          refine wpAnyH_take (i := 12) (v := ?v12) rfl (by kernel_rfl) (by kernel_rfl) (by kernel_rfl) (fun _ _ _ h => h) (Or.inl ⟨by rfl, ?hy12⟩) (by assumption) ?rest12
          case hy12 => (intro w hSw; (try dsimp only at hSw); go_simp; try (with_reducible rfl))
          try simp only [Act.put]
          refine wpAnyH_take (i := 13) (v := ?v13) rfl (by kernel_rfl) (by kernel_rfl) (by kernel_rfl) (fun _ _ _ h => h) (Or.inl ⟨by rfl, ?hy13⟩) (by assumption) ?rest13
          case hy13 => (intro w hSw; (try dsimp only at hSw); go_simp; try (with_reducible rfl))
          try simp only [Act.put]
          refine wpAnyH_take (i := 14) (v := ?v14) rfl (by kernel_rfl) (by kernel_rfl) (by kernel_rfl) (fun _ _ _ h => h) (Or.inl ⟨by rfl, ?hy14⟩) (by assumption) ?rest14
          case hy14 => (intro w hSw; (try dsimp only at hSw); go_simp; try (with_reducible rfl))
          try simp only [Act.put]
          refine wpAnyH_take (i := 15) (v := ?v15) rfl (by kernel_rfl) (by kernel_rfl) (by kernel_rfl) (fun _ _ _ h => h) (Or.inl ⟨by rfl, ?hy15⟩) (by assumption) ?rest15
          case hy15 => (intro w hSw; (try dsimp only at hSw); go_simp; try (with_reducible rfl))
          try simp only [Act.put]
          refine wpAnyH_take (i := 16) (v := ?v16) rfl (by kernel_rfl) (by kernel_rfl) (by kernel_rfl) (fun _ _ _ h => h) (Or.inl ⟨by rfl, ?hy16⟩) (by assumption) ?rest16
          case hy16 => (intro w hSw; (try dsimp only at hSw); go_simp; try (with_reducible rfl))
          try simp only [Act.put]
          refine wpAnyH_take (i := 17) (v := ?v17) rfl (by kernel_rfl) (by kernel_rfl) (by kernel_rfl) (fun _ _ _ h => h) (Or.inl ⟨by rfl, ?hy17⟩) (by assumption) ?rest17
          case hy17 => (intro w hSw; (try dsimp only at hSw); go_simp; try (with_reducible rfl))
          try simp only [Act.put]
          refine wpAnyH_take (i := 18) (v := ?v18) rfl (by kernel_rfl) (by kernel_rfl) (by kernel_rfl) (fun _ _ _ h => h) (Or.inl ⟨by rfl, ?hy18⟩) (by assumption) ?rest18
          case hy18 => (intro w hSw; (try dsimp only at hSw); go_simp; try (with_reducible rfl))
          try simp only [Act.put]
          refine wpAnyH_take (i := 19) (v := ?v19) rfl (by kernel_rfl) (by kernel_rfl) (by kernel_rfl) (fun _ _ _ h => h) (Or.inl ⟨by rfl, ?hy19⟩) (by assumption) ?rest19
          case hy19 => (intro w hSw; (try dsimp only at hSw); go_simp; try (with_reducible rfl))
          try simp only [Act.put]
          refine wpAnyH_ready (rs := [4, 20]) (by kernel_rfl) (by simp) ?_
          refine AllReadyH.cons rfl (fun K hK => ?_) (AllReadyH.cons rfl (fun K hK => ?_) AllReadyH.nil)
          · go_simp
            have H3 := hide (H2.out.alloc (.cells #[.int .i64 k, .int .i64 p, .int .i64 n, .int .i64 C.line, .int .i64 C.col] 74)).drew
            have KX3 : Hid (Blk (wc.alloc (.cells #[.int .i64 k, .int .i64 p, .int .i64 n, .int .i64 C.line, .int .i64 C.col] 74)).drew gx 59 [.int .i64 r.emit, .int .i64 r.act, .int .i64 r.mode]) := blk_alloc KX2.out _
            have S2 : (wc.alloc (.cells #[.int .i64 k, .int .i64 p, .int .i64 n, .int .i64 C.line, .int .i64 C.col] 74)).drew.cell? ⟨gr, 1, none⟩ = some (.int .i64 p) ∧ (wc.alloc (.cells #[.int .i64 k, .int .i64 p, .int .i64 n, .int .i64 C.line, .int .i64 C.col] 74)).drew.cell? ⟨gr, 2, none⟩ = some (.int .i64 C.line) ∧ (wc.alloc (.cells #[.int .i64 k, .int .i64 p, .int .i64 n, .int .i64 C.line, .int .i64 C.col] 74)).drew.cell? ⟨gr, 3, none⟩ = some (.int .i64 C.col) := ⟨blk_cell (j := 1) H3.out.m.blk (u := .int .i64 p) (by rw [← HN.out.2.2.2]; rfl), blk_cell (j := 2) H3.out.m.blk rfl, blk_cell (j := 3) H3.out.m.blk rfl⟩
            refine hK.out _ _ hHeld (fun hHeld2 => ?_)
            clear hK K
            try simp only [Act.put, List.setIfInBounds_toArray, List.set_cons_zero, List.set_cons_succ]
            refine wpAnyH_ready (rs := [20]) (by kernel_rfl) (by simp) ?_
            refine AllReadyH.cons rfl (fun K hK => ?_) AllReadyH.nil
            go_simp
            refine hK.out _ _ S2 (fun hHeld3 => ?_)
            clear hK K
            try simp only [Act.put, List.setIfInBounds_toArray, List.set_cons_zero, List.set_cons_succ]
            refine wpAnyH_ready (rs := [21]) (by kernel_rfl) (by simp) ?_
            refine AllReadyH.cons rfl (fun K hK => ?_) AllReadyH.nil
            refine step_append_lies _ (by rfl) _ _ _ (by rfl) B 74 i0 _ 5 40 Tryz.underlying72 hi hz0 hz1 hz2 rfl (by omega) vtk C.toks.length (tokCells C.toks) (by rfl) H3.out.tk ⟨wc.heap.size, 0, none⟩ 1 1 [.int .i64 k, .int .i64 p, .int .i64 n, .int .i64 C.line, .int .i64 C.col] (by rfl) (by rfl) (World.news_of_block (cs := #[.int .i64 k, .int .i64 p, .int .i64 n, .int .i64 C.line, .int .i64 C.col]) (t := 74) (fr := (0, 0)) (heap_alloc_new _ _)) (by simp [Value.oneCell']) (by omega) (by unfold maxLen; omega) (by omega) (by simp; omega) (wc.heap.size + 1) (by simp) ?_
            intro g2 cap2 w2 hown2 hgrow2 hat2 hlt2
            have mb2 := far_blk H3.out.tk H3.out.m.blk (by decide) hgrow2
            have mb3 := blk_set mb2 7 (.slice (some ⟨g2, 0, none⟩) (C.toks.length + 1) cap2)
            refine hK.out _ _ ⟨blk_cell (j := 1) mb2 (u := .int .i64 p) (by rw [← HN.out.2.2.2]; rfl), blk_cell (j := 2) mb2 rfl, blk_cell (j := 3) mb2 rfl⟩ (fun hHeld4 => ?_)
            have k7 := blk_cell (j := 7) mb2 rfl
            have f7 := blk_frozen mb2 7
            clear hK K
            try simp only [Act.put, List.setIfInBounds_toArray]
            refine wpAnyH_take (i := 22) (v := ?v22) rfl (by kernel_rfl) (by kernel_rfl) (by kernel_rfl) (fun _ _ _ h => h) (Or.inl ⟨by rfl, ?hy22⟩) (by assumption) ?rest22
            case hy22 => (intro w hSw; (try dsimp only at hSw); go_simp; try (with_reducible rfl))
            try simp only [Act.put]
            refine wpAnyH_take (i := 23) (v := ?v23) rfl (by kernel_rfl) (by kernel_rfl) (by kernel_rfl) (fun _ _ _ h => h) (Or.inl ⟨by rfl, ?hy23⟩) (by assumption) ?rest23
            case hy23 => (intro w hSw; (try dsimp only at hSw); go_simp; try (with_reducible rfl))
            try simp only [Act.put]
            refine wpAnyH_ready (rs := [24]) (by kernel_rfl) (by simp) ?_
            refine AllReadyH.cons rfl (fun K hK => ?_) AllReadyH.nil
            go_simp
            refine hK.out _ _ ⟨blk_cell (j := 1) mb3 (u := .int .i64 p) (by rw [← HN.out.2.2.2]; rfl), blk_cell (j := 2) mb3 rfl, blk_cell (j := 3) mb3 rfl⟩ (fun hHeld5 => ?_)
            clear hK K
            refine wpAnyH_done (by kernel_rfl) ?_ _
            have FIN := hide (H3.out.token (t := ⟨C.rule, C.pos, C.marked, C.line, C.col⟩) hgrow2 (by rw [HN.out.1, HN.out.2.1, HN.out.2.2.2]; exact hown2))
            have FX := hide (blk_other (far_blk H3.out.tk KX3.out (by decide) hgrow2) xne 7 (.slice (some ⟨g2, 0, none⟩) (C.toks.length + 1) cap2))
            clear hHeld4 hHeld5 mb2 mb3 k7 f7 hown2 hgrow2 H3 KX3
            generalize w2.setCell ⟨gr, 7, none⟩ (.slice (some ⟨g2, 0, none⟩) (C.toks.length + 1) cap2) = W4 at *
            go_wp2
            go_meet
            case rel => exact ⟨_, by rw [hem, if_pos rfl]; exact FIN.out, FX.out⟩
          · go_simp
            have H3 := hide (H2.out.alloc (.cells #[.int .i64 k, .int .i64 p, .int .i64 n, .int .i64 C.line, .int .i64 C.col] 74)).drew
            have KX3 : Hid (Blk (wc.alloc (.cells #[.int .i64 k, .int .i64 p, .int .i64 n, .int .i64 C.line, .int .i64 C.col] 74)).drew gx 59 [.int .i64 r.emit, .int .i64 r.act, .int .i64 r.mode]) := blk_alloc KX2.out _
            have S2 : (wc.alloc (.cells #[.int .i64 k, .int .i64 p, .int .i64 n, .int .i64 C.line, .int .i64 C.col] 74)).drew.cell? ⟨gr, 1, none⟩ = some (.int .i64 p) ∧ (wc.alloc (.cells #[.int .i64 k, .int .i64 p, .int .i64 n, .int .i64 C.line, .int .i64 C.col] 74)).drew.cell? ⟨gr, 2, none⟩ = some (.int .i64 C.line) ∧ (wc.alloc (.cells #[.int .i64 k, .int .i64 p, .int .i64 n, .int .i64 C.line, .int .i64 C.col] 74)).drew.cell? ⟨gr, 3, none⟩ = some (.int .i64 C.col) := ⟨blk_cell (j := 1) H3.out.m.blk (u := .int .i64 p) (by rw [← HN.out.2.2.2]; rfl), blk_cell (j := 2) H3.out.m.blk rfl, blk_cell (j := 3) H3.out.m.blk rfl⟩
            have c7' := blk_cell (j := 7) H3.out.m.blk rfl
            refine hK.out _ _ S2 (fun hHeld2 => ?_)
            clear hK K
            try simp only [Act.put, List.setIfInBounds_toArray, List.set_cons_zero, List.set_cons_succ]
            refine wpAnyH_ready (rs := [4]) (by kernel_rfl) (by simp) ?_
            refine AllReadyH.cons rfl (fun K hK => ?_) AllReadyH.nil
            go_simp
            refine hK.out _ _ S2 (fun hHeld3 => ?_)
            clear hK K
            try simp only [Act.put, List.setIfInBounds_toArray, List.set_cons_zero, List.set_cons_succ]
            refine wpAnyH_ready (rs := [21]) (by kernel_rfl) (by simp) ?_
            refine AllReadyH.cons rfl (fun K hK => ?_) AllReadyH.nil
            refine step_append_lies _ (by rfl) _ _ _ (by rfl) B 74 i0 _ 5 40 Tryz.underlying72 hi hz0 hz1 hz2 rfl (by omega) vtk C.toks.length (tokCells C.toks) (by rfl) H3.out.tk ⟨wc.heap.size, 0, none⟩ 1 1 [.int .i64 k, .int .i64 p, .int .i64 n, .int .i64 C.line, .int .i64 C.col] (by rfl) (by rfl) (World.news_of_block (cs := #[.int .i64 k, .int .i64 p, .int .i64 n, .int .i64 C.line, .int .i64 C.col]) (t := 74) (fr := (0, 0)) (heap_alloc_new _ _)) (by simp [Value.oneCell']) (by omega) (by unfold maxLen; omega) (by omega) (by simp; omega) (wc.heap.size + 1) (by simp) ?_
            intro g2 cap2 w2 hown2 hgrow2 hat2 hlt2
            have mb2 := far_blk H3.out.tk H3.out.m.blk (by decide) hgrow2
            have mb3 := blk_set mb2 7 (.slice (some ⟨g2, 0, none⟩) (C.toks.length + 1) cap2)
            refine hK.out _ _ ⟨blk_cell (j := 1) mb2 (u := .int .i64 p) (by rw [← HN.out.2.2.2]; rfl), blk_cell (j := 2) mb2 rfl, blk_cell (j := 3) mb2 rfl⟩ (fun hHeld4 => ?_)
            have k7 := blk_cell (j := 7) mb2 rfl
            have f7 := blk_frozen mb2 7
            clear hK K
            try simp only [Act.put, List.setIfInBounds_toArray]
            refine wpAnyH_take (i := 22) (v := ?vb22) rfl (by kernel_rfl) (by kernel_rfl) (by kernel_rfl) (fun _ _ _ h => h) (Or.inl ⟨by rfl, ?hyb22⟩) (by assumption) ?restb22
            case hyb22 => (intro w hSw; (try dsimp only at hSw); go_simp; try (with_reducible rfl))
            try simp only [Act.put]
            refine wpAnyH_take (i := 23) (v := ?vb23) rfl (by kernel_rfl) (by kernel_rfl) (by kernel_rfl) (fun _ _ _ h => h) (Or.inl ⟨by rfl, ?hyb23⟩) (by assumption) ?restb23
            case hyb23 => (intro w hSw; (try dsimp only at hSw); go_simp; try (with_reducible rfl))
            try simp only [Act.put]
            refine wpAnyH_ready (rs := [24]) (by kernel_rfl) (by simp) ?_
            refine AllReadyH.cons rfl (fun K hK => ?_) AllReadyH.nil
            go_simp
            refine hK.out _ _ ⟨blk_cell (j := 1) mb3 (u := .int .i64 p) (by rw [← HN.out.2.2.2]; rfl), blk_cell (j := 2) mb3 rfl, blk_cell (j := 3) mb3 rfl⟩ (fun hHeld5 => ?_)
            clear hK K
            refine wpAnyH_done (by kernel_rfl) ?_ _
            have FIN := hide (H3.out.token (t := ⟨C.rule, C.pos, C.marked, C.line, C.col⟩) hgrow2 (by rw [HN.out.1, HN.out.2.1, HN.out.2.2.2]; exact hown2))
            have FX := hide (blk_other (far_blk H3.out.tk KX3.out (by decide) hgrow2) xne 7 (.slice (some ⟨g2, 0, none⟩) (C.toks.length + 1) cap2))
            clear hHeld4 hHeld5 mb2 mb3 k7 f7 hown2 hgrow2 H3 KX3
            generalize w2.setCell ⟨gr, 7, none⟩ (.slice (some ⟨g2, 0, none⟩) (C.toks.length + 1) cap2) = W4 at *
            go_wp2
            go_meet
            case rel => exact ⟨_, by rw [hem, if_pos rfl]; exact FIN.out, FX.out⟩
      case rest =>
        obtain ⟨vtk', hT, hX⟩ := hcut
        generalize hT1 : (if r.emit = 1 then C.toks ++ [⟨C.rule, C.pos, C.marked, C.line, C.col⟩] else C.toks) = TT at *
        have HT1 := hide hT1
        have H4 := hide hT
        have KX4 := hide hX
        clear hT hX hT1 H2 KX2 x0
        go_wp2_with fail
        go_loopg [7] n (fun gk iv wr => ∃ i : Nat, i ≤ n ∧ iv = .int .i64 i ∧ gk = n - i ∧ TR B w0 gr gs E (.slice (some ⟨ge, 0, none⟩) E.p.ents.length ce) (.slice (some ⟨gv, 0, none⟩) E.p.rules.length cv) vc rest { C with toks := TT, line := (Pure.adv E.s p i (C.line, C.col)).1, col := (Pure.adv E.s p i (C.line, C.col)).2 } (.slice ao dn cp) vtk' wr ∧ Blk wr gx 59 [.int .i64 r.emit, .int .i64 r.act, .int .i64 r.mode])
        case atStart => exact ⟨0, Nat.zero_le _, rfl, rfl, H4.out, KX4.out⟩
        case round =>
          clear H4 KX4
          obtain ⟨i, hi', rfl, rfl, hT, hX⟩ := hrel
          have HT := hide hT
          have HX := hide hX
          have hL := HH.out.line
          have hC := HH.out.col
          have hp := HN.out.2.2.2
          have hB := Pure.adv_bd E.s p i (C.line, C.col) hL.1 hC.1
          simp only at hB
          rw [hp] at hL hC
          by_cases hlt : i < n
          · have c0 := blk_cell (j := 0) hT.m.blk rfl
            have c1 := blk_cell (j := 1) hT.m.blk (u := .int .i64 p) (by rw [← hp]; rfl)
            have c2 := blk_cell (j := 2) hT.m.blk rfl
            have c3 := blk_cell (j := 3) hT.m.blk rfl
            have f2 := blk_frozen hT.m.blk 2
            have f3 := blk_frozen hT.m.blk 3
            have s6 := blk_cell (j := 6) hT.m.scn rfl
            have hq1 : p + i < E.s.size := by omega
            have hq2 : ((p + i : Nat) : Int) < (E.s.size : Int) := by omega
            have hw : IntKind.i64.wrap ((p : Int) + (i : Int)) = ((p + i : Nat) : Int) := by rw [wrap_in _ (by omega) (by omega)]; omega
            have x0 := fun w => idx_str E.s ((p + i : Nat) : Int) (p + i) rfl hq1 w
            have EA : Hid (Pure.adv E.s p (i + 1) (C.line, C.col) = if bt E.s (p + i) = 10 then ((Pure.adv E.s p i (C.line, C.col)).1 + 1, 1) else ((Pure.adv E.s p i (C.line, C.col)).1, (Pure.adv E.s p i (C.line, C.col)).2 + 1)) := rfl
            clear hT hX hp
            generalize (Pure.adv E.s p i (C.line, C.col)).1 = L at *
            generalize (Pure.adv E.s p i (C.line, C.col)).2 = K at *
            generalize p + i = q at *
            generalize bt E.s q = y at *
            have hlt1 : (i : Int) < (n : Int) := by omega
            by_cases hy : y = 10
            · subst hy
              go_wp2_with fail
              go_quiet (fail)
              have H5 := hide (((HT.out.drewN nq).set 2 (.int .i64 (L + 1)) (D := { C with toks := TT, line := L + 1, col := K }) rfl rfl rfl rfl).set 3 (.int .i64 1) (D := { C with toks := TT, line := L + 1, col := 1 }) rfl rfl rfl rfl)
              have KX5 := hide (blk_other (blk_other (blk_drew HX.out nq) xne 2 (.int .i64 (L + 1))) xne 3 (.int .i64 1))
              go_wp2
              go_roundg (n - (i + 1))
              case measure => omega
              case rel => exact ⟨i + 1, by omega, by go_num, rfl, by rw [EA.out]; exact H5.out, KX5.out⟩
            · have dy : (y == 10) = false := by simpa using hy
              go_wp2_with fail
              go_quiet (fail)
              have H5 := hide ((HT.out.drewN nq).set 3 (.int .i64 (K + 1)) (D := { C with toks := TT, line := L, col := K + 1 }) rfl rfl rfl rfl)
              have KX5 := hide (blk_other (blk_drew HX.out nq) xne 3 (.int .i64 (K + 1)))
              go_wp2
              go_roundg (n - (i + 1))
              case measure => omega
              case rel => exact ⟨i + 1, by omega, by go_num, rfl, by rw [EA.out, if_neg hy]; exact H5.out, KX5.out⟩
          · have hin : i = n := by omega
            subst hin
            have AD := hide (Eq.refl (Pure.adv E.s p i (C.line, C.col)))
            have c1 := blk_cell (j := 1) hT.m.blk (u := .int .i64 p) (by rw [← hp]; rfl)
            have f1 := blk_frozen hT.m.blk 1
            have x1 := blk_cell (j := 1) hX rfl
            have x2 := blk_cell (j := 2) hX rfl
            have c4 := blk_cell (j := 4) hT.m.blk rfl
            have f4 := blk_frozen hT.m.blk 4
            have c5 := blk_cell (j := 5) hT.m.blk rfl
            have f5 := blk_frozen hT.m.blk 5
            have H6 := hide (HT.out.set 1 (.int .i64 (p + i)) (D := { C with toks := TT, line := (Pure.adv E.s p i (C.line, C.col)).1, col := (Pure.adv E.s p i (C.line, C.col)).2, pos := p + i }) rfl rfl rfl rfl)
            clear hT hX hp hlt hi'
            go_upto_region 15 with (fail)
            have KX6 := hide (blk_other HX.out xne 1 (.int .i64 ((p : Int) + (i : Int))))
            have TOK : Hid (∀ vst vtk W, TR B w0 gr gs E (.slice (some ⟨ge, 0, none⟩) E.p.ents.length ce) (.slice (some ⟨gv, 0, none⟩) E.p.rules.length cv) vc rest { C with toks := TT, line := (Pure.adv E.s p i (C.line, C.col)).1, col := (Pure.adv E.s p i (C.line, C.col)).2, pos := p + i, mode := Pure.newMode r C, stk := Pure.newStk r C, dep := Pure.newDep r C } vst vtk W → TR B w0 gr gs E (.slice (some ⟨ge, 0, none⟩) E.p.ents.length ce) (.slice (some ⟨gv, 0, none⟩) E.p.rules.length cv) vc rest (Pure.take E C 0) vst vtk W) := fun vst vtk W h => by
              rw [TK.out]
              have e : Pure.took E.p E.s C = { C with toks := TT, line := (Pure.adv E.s p i (C.line, C.col)).1, col := (Pure.adv E.s p i (C.line, C.col)).2, pos := p + i, mode := Pure.newMode r C, stk := Pure.newStk r C, dep := Pure.newDep r C, ins := Pure.ig E.p.ents (Pure.newMode r C).toNat, c := 0, looked := 0, rule := 0, marked := 0, err := 0 } := by
                unfold Pure.took
                simp only
                rw [← HT1.out]
                rw [HN.out.1, HN.out.2.1, HN.out.2.2.2]
                simp only [Int.toNat_natCast, HR.out]
              rw [e]
              exact h.like (by unfold runRCells; simp only [HE.out]) rfl rfl rfl
            have DT : Hid (C.dep.toNat = dn) := by show _ = _; have := HN.out.2.2.1; omega
            have stl := HH.out.stk.1
            clear c1 f1 x1 x2 c4 f4 c5 f5 HT HX
            generalize wr.setCell ⟨gr, 1, none⟩ (.int .i64 ((p : Int) + (i : Int))) = W6 at *
            generalize (Pure.adv E.s p i (C.line, C.col)).1 = L at *
            generalize (Pure.adv E.s p i (C.line, C.col)).2 = K at *
            have x1 := blk_cell (j := 1) KX6.out rfl
            have x2 := blk_cell (j := 2) KX6.out rfl
            have c4 := blk_cell (j := 4) H6.out.m.blk rfl
            have f4 := blk_frozen H6.out.m.blk 4
            have c5 := blk_cell (j := 5) H6.out.m.blk rfl
            have f5 := blk_frozen H6.out.m.blk 5
            by_cases a1 : r.act = 1
            · have NM : Hid (Pure.newMode r C = r.mode ∧ Pure.newStk r C = C.stk ∧ Pure.newDep r C = C.dep) := by
                unfold Pure.newMode Pure.newStk Pure.newDep
                exact ⟨by rw [if_pos (.inl a1)], by rw [if_neg (by omega)], by rw [if_neg (by omega), if_neg (by omega)]⟩
              rw [a1] at x1
              clear a1
              go_wp2
              go_end0
              exact ⟨rfl, _, _, TOK.out _ _ _ (by rw [NM.out.1, NM.out.2.1, NM.out.2.2]; exact H6.out.set 4 (.int .i64 r.mode) rfl rfl rfl rfl)⟩
            have d1 : (r.act == 1) = false := by simpa using a1
            by_cases a2 : r.act = 2
            · have NM : Hid (Pure.newMode r C = r.mode ∧ Pure.newStk r C = C.stk.set dn C.mode ∧ Pure.newDep r C = C.dep + 1) := by
                unfold Pure.newMode Pure.newStk Pure.newDep
                exact ⟨by rw [if_pos (.inr a2)], by rw [if_pos a2, DT.out], by rw [if_pos a2]⟩
              have hdl := T1.out a2
              have hde := GD.out.depth
              have PU : Hid (intCells ((C.stk.set dn C.mode).take (dn + 1)) = intCells (C.stk.take dn) ++ [.int .i64 C.mode]) := by
                show _ = _
                rw [take_set _ _ _ (by omega)]
                simp [intCells]
              rw [a2] at x1
              clear a1 d1 a2
              have gl2 := blk_lt H6.out.m.blk
              have hsz := H6.out.sz
              have ne1 : gr ≠ W6.heap.size := by omega
              have ne2 : W6.heap.size ≠ gr := by omega
              go_wp2_with fail
              have S1 : W6.drew.cell? ⟨gr, 4, none⟩ = some (.int .i64 C.mode) := c4
              refine wp_region_held_drew (S := fun w' => w'.cell? ⟨gr, 4, none⟩ = some (.int .i64 C.mode)) (by kernel_rfl) S1 (fun hHeld => ?_)
              refine wpAnyH_take (i := 0) (v := ?vp0) rfl (by kernel_rfl) (by kernel_rfl) (by kernel_rfl) (fun _ _ _ h => h) (Or.inl ⟨by rfl, ?hyp0⟩) (by assumption) ?restp0
              case hyp0 => (intro w hSw; (try dsimp only at hSw); go_simp; try (with_reducible rfl))
              try simp only [Act.put, List.setIfInBounds_toArray]
              refine wpAnyH_take (i := 1) (v := ?vp1) rfl (by kernel_rfl) (by kernel_rfl) (by kernel_rfl) (fun _ _ _ h => h) (Or.inl ⟨by rfl, ?hyp1⟩) (by assumption) ?restp1
              case hyp1 => (intro w hSw; (try dsimp only at hSw); go_simp; try (with_reducible rfl))
              try simp only [Act.put]
              refine wpAnyH_take (i := 2) (v := ?vp2) rfl (by kernel_rfl) (by kernel_rfl) (by kernel_rfl) (fun _ _ _ h => h) (Or.inl ⟨by rfl, ?hyp2⟩) (by assumption) ?restp2
              case hyp2 => (intro w hSw; (try dsimp only at hSw); go_simp; try (with_reducible rfl))
              try simp only [Act.put]
              refine wpAnyH_take (i := 3) (v := ?vp3) rfl (by kernel_rfl) (by kernel_rfl) (by kernel_rfl) (fun _ _ _ h => h) (Or.inl ⟨by rfl, ?hyp3⟩) (by assumption) ?restp3
              case hyp3 => (intro w hSw; (try dsimp only at hSw); go_simp; try (with_reducible rfl))
              try simp only [Act.put]
              refine wpAnyH_take (i := 5) (v := ?vp5) rfl (by kernel_rfl) (by kernel_rfl) (by kernel_rfl) (fun _ _ _ h => h) (Or.inl ⟨by rfl, ?hyp5⟩) (by assumption) ?restp5
              case hyp5 => (intro w hSw; (try dsimp only at hSw); go_simp; try (with_reducible rfl))
              try simp only [Act.put]
              refine wpAnyH_take (i := 6) (v := ?vp6) rfl (by kernel_rfl) (by kernel_rfl) (by kernel_rfl) (fun _ _ _ h => h) (Or.inl ⟨by rfl, ?hyp6⟩) (by assumption) ?restp6
              case hyp6 => (intro w hSw; (try dsimp only at hSw); go_simp; try (with_reducible rfl))
              try simp only [Act.put]
              refine wpAnyH_take (i := 7) (v := ?vp7) rfl (by kernel_rfl) (by kernel_rfl) (by kernel_rfl) (fun _ _ _ h => h) (Or.inl ⟨by rfl, ?hyp7⟩) (by assumption) ?restp7
              case hyp7 => (intro w hSw; (try dsimp only at hSw); go_simp; try (with_reducible rfl))
              try simp only [Act.put]
              refine wpAnyH_take (i := 8) (v := ?vp8) rfl (by kernel_rfl) (by kernel_rfl) (by kernel_rfl) (fun _ _ _ h => h) (Or.inl ⟨by rfl, ?hyp8⟩) (by assumption) ?restp8
              case hyp8 => (intro w hSw; (try dsimp only at hSw); go_simp; try (with_reducible rfl))
              try simp only [Act.put]
              refine wpAnyH_ready (rs := [4, 9]) (by kernel_rfl) (by simp) ?_
              have H7 := hide (H6.out.alloc (.cells #[.int .i64 C.mode] 3)).drew
              have KX7 : Hid (Blk (W6.alloc (.cells #[.int .i64 C.mode] 3)).drew gx 59 [.int .i64 r.emit, .int .i64 r.act, .int .i64 r.mode]) := blk_alloc KX6.out _
              have ST : Hid ((W6.alloc (.cells #[.int .i64 C.mode] 3)).drew.ownsRow B 3 1 (.slice ao dn cp) dn (intCells (C.stk.take dn))) := by
                have z := H7.out.st
                simp only at z
                rw [DT.out] at z
                exact z
              have S2 : (W6.alloc (.cells #[.int .i64 C.mode] 3)).drew.cell? ⟨gr, 4, none⟩ = some (.int .i64 C.mode) := blk_cell (j := 4) H7.out.m.blk rfl
              refine AllReadyH.cons rfl (fun K hK => ?_) (AllReadyH.cons rfl (fun K hK => ?_) AllReadyH.nil)
              · go_simp
                refine hK.out _ _ hHeld (fun hHeld2 => ?_)
                clear hK K
                try simp only [Act.put, List.setIfInBounds_toArray, List.set_cons_zero, List.set_cons_succ]
                refine wpAnyH_ready (rs := [9]) (by kernel_rfl) (by simp) ?_
                refine AllReadyH.cons rfl (fun K hK => ?_) AllReadyH.nil
                go_simp
                refine hK.out _ _ S2 (fun hHeld3 => ?_)
                clear hK K
                try simp only [Act.put, List.setIfInBounds_toArray, List.set_cons_zero, List.set_cons_succ]
                refine wpAnyH_ready (rs := [10]) (by kernel_rfl) (by simp) ?_
                refine AllReadyH.cons rfl (fun K hK => ?_) AllReadyH.nil
                refine step_append_lies _ (by rfl) _ _ _ (by rfl) B 3 i3 _ 1 8 Tryz.underlying31 hi3 h30 h31 h32 rfl (by omega) (.slice ao dn cp) dn (intCells (C.stk.take dn)) (by rfl) ST.out ⟨W6.heap.size, 0, none⟩ 1 1 [.int .i64 C.mode] (by rfl) (by rfl) (World.news_of_block (cs := #[.int .i64 C.mode]) (t := 3) (fr := (0, 0)) (heap_alloc_new _ _)) (by simp [Value.oneCell']) (by omega) (by unfold maxLen; omega) (by omega) (by simp; omega) (W6.heap.size + 1) (by simp) ?_
                intro g2 cap2 w2 hown2 hgrow2 hat2 hlt2
                have mb2 := far_blk ST.out H7.out.m.blk (by decide) hgrow2
                have mb3 := blk_set mb2 5 (.slice (some ⟨g2, 0, none⟩) (dn + 1) cap2)
                refine hK.out _ _ (blk_cell (j := 4) mb2 rfl) (fun hHeld4 => ?_)
                have k5 := blk_cell (j := 5) mb2 rfl
                have f5' := blk_frozen mb2 5
                clear hK K
                try simp only [Act.put, List.setIfInBounds_toArray]
                refine wpAnyH_take (i := 11) (v := ?vq11) rfl (by kernel_rfl) (by kernel_rfl) (by kernel_rfl) (fun _ _ _ h => h) (Or.inl ⟨by rfl, ?hyq11⟩) (by assumption) ?restq11
                case hyq11 => (intro w hSw; (try dsimp only at hSw); go_simp; try (with_reducible rfl))
                try simp only [Act.put]
                refine wpAnyH_take (i := 12) (v := ?vq12) rfl (by kernel_rfl) (by kernel_rfl) (by kernel_rfl) (fun _ _ _ h => h) (Or.inl ⟨by rfl, ?hyq12⟩) (by assumption) ?restq12
                case hyq12 => (intro w hSw; (try dsimp only at hSw); go_simp; try (with_reducible rfl))
                try simp only [Act.put]
                refine wpAnyH_ready (rs := [13]) (by kernel_rfl) (by simp) ?_
                refine AllReadyH.cons rfl (fun K hK => ?_) AllReadyH.nil
                go_simp
                refine hK.out _ _ (blk_cell (j := 4) mb3 rfl) (fun hHeld5 => ?_)
                clear hK K
                refine wpAnyH_done (by kernel_rfl) ?_ _
                have H8 := hide (H7.out.push (l := C.stk.set dn C.mode) (d := C.dep + 1) hgrow2 rfl HH.out.dep.1 (by rw [DT.out, PU.out]; exact hown2))
                have KX8 := hide (blk_other (far_blk ST.out KX7.out (by decide) hgrow2) xne 5 (.slice (some ⟨g2, 0, none⟩) (dn + 1) cap2))
                clear hHeld4 hHeld5 mb2 mb3 k5 f5' hown2 hgrow2 H7 KX7 ST
                generalize w2.setCell ⟨gr, 5, none⟩ (.slice (some ⟨g2, 0, none⟩) (dn + 1) cap2) = W8 at *
                have x2 := blk_cell (j := 2) KX8.out rfl
                have c4 := blk_cell (j := 4) H8.out.m.blk rfl
                have f4 := blk_frozen H8.out.m.blk 4
                go_wp2
                go_end0
                exact ⟨rfl, _, _, TOK.out _ _ _ (by rw [NM.out.1, NM.out.2.1, NM.out.2.2]; exact H8.out.set 4 (.int .i64 r.mode) rfl rfl rfl rfl)⟩
              · have c5' := blk_cell (j := 5) H7.out.m.blk rfl
                go_simp
                refine hK.out _ _ S2 (fun hHeld2 => ?_)
                clear hK K
                try simp only [Act.put, List.setIfInBounds_toArray, List.set_cons_zero, List.set_cons_succ]
                refine wpAnyH_ready (rs := [4]) (by kernel_rfl) (by simp) ?_
                refine AllReadyH.cons rfl (fun K hK => ?_) AllReadyH.nil
                go_simp
                refine hK.out _ _ S2 (fun hHeld3 => ?_)
                clear hK K
                try simp only [Act.put, List.setIfInBounds_toArray, List.set_cons_zero, List.set_cons_succ]
                refine wpAnyH_ready (rs := [10]) (by kernel_rfl) (by simp) ?_
                refine AllReadyH.cons rfl (fun K hK => ?_) AllReadyH.nil
                refine step_append_lies _ (by rfl) _ _ _ (by rfl) B 3 i3 _ 1 8 Tryz.underlying31 hi3 h30 h31 h32 rfl (by omega) (.slice ao dn cp) dn (intCells (C.stk.take dn)) (by rfl) ST.out ⟨W6.heap.size, 0, none⟩ 1 1 [.int .i64 C.mode] (by rfl) (by rfl) (World.news_of_block (cs := #[.int .i64 C.mode]) (t := 3) (fr := (0, 0)) (heap_alloc_new _ _)) (by simp [Value.oneCell']) (by omega) (by unfold maxLen; omega) (by omega) (by simp; omega) (W6.heap.size + 1) (by simp) ?_
                intro g2 cap2 w2 hown2 hgrow2 hat2 hlt2
                have mb2 := far_blk ST.out H7.out.m.blk (by decide) hgrow2
                have mb3 := blk_set mb2 5 (.slice (some ⟨g2, 0, none⟩) (dn + 1) cap2)
                refine hK.out _ _ (blk_cell (j := 4) mb2 rfl) (fun hHeld4 => ?_)
                have k5 := blk_cell (j := 5) mb2 rfl
                have f5' := blk_frozen mb2 5
                clear hK K
                try simp only [Act.put, List.setIfInBounds_toArray]
                refine wpAnyH_take (i := 11) (v := ?vr11) rfl (by kernel_rfl) (by kernel_rfl) (by kernel_rfl) (fun _ _ _ h => h) (Or.inl ⟨by rfl, ?hyr11⟩) (by assumption) ?restr11
                case hyr11 => (intro w hSw; (try dsimp only at hSw); go_simp; try (with_reducible rfl))
                try simp only [Act.put]
                refine wpAnyH_take (i := 12) (v := ?vr12) rfl (by kernel_rfl) (by kernel_rfl) (by kernel_rfl) (fun _ _ _ h => h) (Or.inl ⟨by rfl, ?hyr12⟩) (by assumption) ?restr12
                case hyr12 => (intro w hSw; (try dsimp only at hSw); go_simp; try (with_reducible rfl))
                try simp only [Act.put]
                refine wpAnyH_ready (rs := [13]) (by kernel_rfl) (by simp) ?_
                refine AllReadyH.cons rfl (fun K hK => ?_) AllReadyH.nil
                go_simp
                refine hK.out _ _ (blk_cell (j := 4) mb3 rfl) (fun hHeld5 => ?_)
                clear hK K
                refine wpAnyH_done (by kernel_rfl) ?_ _
                have H8 := hide (H7.out.push (l := C.stk.set dn C.mode) (d := C.dep + 1) hgrow2 rfl HH.out.dep.1 (by rw [DT.out, PU.out]; exact hown2))
                have KX8 := hide (blk_other (far_blk ST.out KX7.out (by decide) hgrow2) xne 5 (.slice (some ⟨g2, 0, none⟩) (dn + 1) cap2))
                clear hHeld4 hHeld5 mb2 mb3 k5 f5' hown2 hgrow2 H7 KX7 ST
                generalize w2.setCell ⟨gr, 5, none⟩ (.slice (some ⟨g2, 0, none⟩) (dn + 1) cap2) = W8 at *
                have x2 := blk_cell (j := 2) KX8.out rfl
                have c4 := blk_cell (j := 4) H8.out.m.blk rfl
                have f4 := blk_frozen H8.out.m.blk 4
                go_wp2
                go_end0
                exact ⟨rfl, _, _, TOK.out _ _ _ (by rw [NM.out.1, NM.out.2.1, NM.out.2.2]; exact H8.out.set 4 (.int .i64 r.mode) rfl rfl rfl rfl)⟩
            have d2 : (r.act == 2) = false := by simpa using a2
            by_cases a3 : r.act = 3
            · have hd0 := T2.out a3
              obtain ⟨d', rfl⟩ : ∃ d', dn = d' + 1 := ⟨dn - 1, by omega⟩
              have NM : Hid (Pure.newMode r C = Pure.ig C.stk d' ∧ Pure.newStk r C = C.stk ∧ Pure.newDep r C = C.dep - 1) := by
                unfold Pure.newMode Pure.newStk Pure.newDep
                have := HN.out.2.2.1
                exact ⟨by rw [if_neg (by omega), if_pos a3, show (C.dep - 1).toNat = d' by omega], by rw [if_neg (by omega)], by rw [if_neg (by omega), if_pos a3]⟩
              have ST : Hid (W6.ownsRow B 3 1 (.slice ao (d' + 1) cp) (d' + 1) (intCells (C.stk.take (d' + 1)))) := by
                have z := H6.out.st
                simp only at z
                rw [DT.out] at z
                exact z
              obtain ⟨gk, ck, hgk, -, -⟩ := own_some ST.out (by omega)
              cases hgk
              have q5 : W6.cell? ⟨gk, d', none⟩ = some (.int .i64 (Pure.ig C.stk d')) := own_cell ST.out (by
                rw [intCells, List.getElem?_map, List.getElem?_take_of_lt (by omega), List.getElem?_eq_getElem (by omega)]
                simp [Pure.ig, List.getD_eq_getElem?_getD, List.getElem?_eq_getElem (show d' < C.stk.length by omega)])
              rw [a3] at x1
              clear a1 d1 a2 d2 a3
              have H8 := hide ((H6.out.set 4 (.int .i64 (Pure.ig C.stk d')) (D := { C with toks := TT, line := L, col := K, pos := p + i, mode := Pure.ig C.stk d' }) rfl rfl rfl rfl).pop (n := d' + 1) (d := C.dep - 1) DT.out (by omega) (by show _ ≤ C.stk.length; omega) (by have := HN.out.2.2.1; omega))
              have gne : gk ≠ gr := fun e => by
                have b1 := H6.out.m.blk
                rcases ST.out.2 with ⟨h1, _⟩ | ⟨g', cap', cur, h1, _, h4, _⟩
                · cases h1
                · cases h1
                  unfold Blk at b1
                  rw [e, b1] at h4
                  simp at h4
              have gne' : gr ≠ gk := fun e => gne e.symm
              clear H6 KX6 ST
              go_wp2
              go_end0
              exact ⟨rfl, _, _, TOK.out _ _ _ (by rw [NM.out.1, NM.out.2.1, NM.out.2.2]; exact H8.out)⟩
            have d3 : (r.act == 3) = false := by simpa using a3
            have NM : Hid (Pure.newMode r C = C.mode ∧ Pure.newStk r C = C.stk ∧ Pure.newDep r C = C.dep) := by
              unfold Pure.newMode Pure.newStk Pure.newDep
              exact ⟨by rw [if_neg (by omega), if_neg a3], by rw [if_neg a2], by rw [if_neg a2, if_neg a3]⟩
            go_wp2
            go_end0
            exact ⟨rfl, _, _, TOK.out _ _ _ (by rw [NM.out.1, NM.out.2.1, NM.out.2.2]; exact H6.out)⟩

end Go.Proofs.YtmccnmgaoppogaaGreat

/-
  The walks: Literal: up to four words, each a rule by itself. (weirkeep)
-/
import Derived.Test.YtmccnmgaoppogaaN5
import Derived.Test.YtmccnmgaoppogaaJC
import Derived.Test.YtmccnmgaoppogaaFCc
namespace Go.Proofs.Ytmccnmgaoppogaa
open Go.RowKit

/-- words that lie there, in a row of the call's own -/
structure Lt (w : World) (vw : Value) (W : List ByteArray) (X : World) : Prop where
  be : Below w.heap.size w X
  ow : X.ownsRow w.heap.size 9 1 vw W.length (strCells W)
theorem Lt.below {w X X' : World} {vw : Value} {W : List ByteArray} (h : Lt w vw W X) (hb : Below X.heap.size X X') : Lt w vw W X' := ⟨bel0 h.be hb, own_below h.ow hb (Nat.le_refl _)⟩
theorem Lt.add {w X X' : World} {vw v2 : Value} {W : List ByteArray} {s : ByteArray} (h : Lt w vw W X) (ho : X'.ownsRow w.heap.size 9 1 v2 (W ++ [s]).length (strCells (W ++ [s]))) (hg : X.grownBy X' vw.ownBlock) : Lt w v2 (W ++ [s]) X' :=
  ⟨h.be.grown hg h.be.size (fun k e => (World.ownsRow.lt h.ow k e).1), ho⟩
theorem Lt.get {w X : World} {vw : Value} {W : List ByteArray} (h : Lt w vw W X) {i : Nat} {b : ByteArray} (hi : W[i]? = some b) : ∃ g c, vw = .slice (some ⟨g, 0, none⟩) W.length c ∧ ∀ (j : Nat) (u : ByteArray), W[j]? = some u → X.cell? ⟨g, j, none⟩ = some (.string u) := by
  have hl := (List.getElem?_eq_some_iff.1 hi).1
  obtain ⟨g, c, e, _, _⟩ := own_some h.ow (by omega)
  have ho := h.ow
  rw [e] at ho
  exact ⟨g, c, e, fun j u hu => own_cell ho (by simp [strCells, hu])⟩
theorem str_infoN : (Try.prog.info? 9).map (fun i => (i.zero, i.size, i.bytes)) = some (some (.string ⟨#[]⟩), 1, 16) := by kernel_rfl
theorem wpList_append_str {w : World} {ops : Array Oper} {rest : List Oper} {o : Oper} {a : Act} {Q : Exit → Act → World → Prop} (hgd : o.guard = none) (s x : Operand)
    (ho : o.op = .call { callee := .builtin .append, args := #[s, x], argTypes := #[57, 57] }) (base : Nat) (v : Value) (W : List ByteArray) (q : ByteArray) (gx : Nat) (hs : a.eval s = v) (hown : w.ownsRow base 9 1 v W.length (strCells W))
    (hx : a.eval x = .slice (some ⟨gx, 0, none⟩) 1 1) (hb : Blk w gx 9 [.string q]) (hlen : W.length ≤ 1000) (hbase : base ≤ w.heap.size)
    (h : ∀ v' w', w'.ownsRow base 9 1 v' (W ++ [q]).length (strCells (W ++ [q])) → w.grownBy w' v.ownBlock → wpList Try.prog ops Q rest (a.put o.dst v') w') : wpList Try.prog ops Q (o :: rest) a w := by
  obtain ⟨il, hil, hl0, hl1, hl2⟩ := info_parts str_infoN
  refine wpList_append_own _ hgd s x 57 ho base 9 il _ 1 16 Try.underlying57 hil hl0 hl1 hl2 rfl (by decide) v W.length (strCells W) hs hown ⟨gx, 0, none⟩ 1 1 [.string q] hx rfl ?_ (fun u hu => by simp at hu; rw [hu]; rfl) (by unfold maxLen; omega) (by omega) hbase ?_
  · intro j y hy
    have := blk_cell hb hy
    simpa [add_eq] using this
  · intro v' w' h1 h2 _
    refine h v' w' ?_ h2
    rw [List.length_append]
    have e : strCells (W ++ [q]) = strCells W ++ [.string q] := by simp [strCells]
    rw [e]
    exact h1

/-- words as they are put together -/
structure WB (W : List ByteArray) : Prop where
  n : 1 ≤ W.length ∧ W.length ≤ 4
  w : ∀ b ∈ W, Pure.bytesN b ≠ [] ∧ (Pure.bytesN b).length ≤ 8
theorem WB.wds {W : List ByteArray} (h : WB W) : Pure.Wds (W.map Pure.bytesN) := ⟨by rw [List.length_map]; exact h.n, fun u hu => by
  obtain ⟨b, hb, rfl⟩ := List.mem_map.1 hu
  exact ⟨(h.w b hb).1, (h.w b hb).2, Pure.bytesN_byt b⟩⟩
theorem WB.one : WB [⟨#[120]⟩] := ⟨by simp, fun b hb => by
  rw [List.mem_singleton.1 hb]
  exact ⟨by decide, by decide⟩⟩
theorem WB.of {l : List ByteArray} {k : Nat} (h1 : k ≤ l.length) (h2 : k ≤ 4) (h0 : k ≠ 0) : WB ((l.take k).map shortB) := ⟨by rw [List.length_map, List.length_take]; omega, fun b hb => by
  obtain ⟨s, _, rfl⟩ := List.mem_map.1 hb
  exact short_bd s⟩

namespace Pure
theorem textB_take (ws : List (List Nat)) {i : Nat} {u : List Nat} (h : ws[i]? = some u) : textB (ws.take (i + 1)) = textB (ws.take i) ++ ((if i = 0 then [] else [10]) ++ lineB u) := by
  cases ws with
  | nil => simp at h
  | cons w ws =>
    cases i with
    | zero =>
      have : w = u := by simpa using h
      subst this
      simp [textB, moreB]
    | succ i =>
      have h' : ws[i]? = some u := by simpa using h
      rw [List.take_succ_cons, List.take_succ_cons, List.take_add_one, h']
      show lineB w ++ moreB (ws.take i ++ [u]) = (lineB w ++ moreB (ws.take i)) ++ _
      rw [if_neg (by omega)]
      simp [moreB]
theorem textB_len {ws : List (List Nat)} (h : Wds ws) (i : Nat) : (textB (ws.take i)).length ≤ 300 := by
  have key : ∀ l : List (List Nat), (∀ u ∈ l, u.length ≤ 8) → (moreB l).length ≤ 21 * l.length := by
    intro l
    induction l with
    | nil => intro _; simp [moreB]
    | cons w l ih =>
      intro hw
      have h1 := lineB_len (hw w (List.mem_cons_self ..))
      have h2 := ih (fun u hu => hw u (List.mem_cons_of_mem _ hu))
      have e : moreB (w :: l) = 10 :: lineB w ++ moreB l := by simp [moreB]
      rw [e, List.length_append, List.length_cons, List.length_cons]
      omega
  have hl : (ws.take i).length ≤ 4 := by have := h.n; rw [List.length_take]; omega
  have hm : ∀ u ∈ ws.take i, u.length ≤ 8 := fun u hu => (h.w u (List.mem_of_mem_take hu)).2.1
  generalize ws.take i = l at *
  cases l with
  | nil => simp [textB]
  | cons w l =>
    have h1 := lineB_len (hm w (List.mem_cons_self ..))
    have h2 := key l (fun u hu => hm u (List.mem_cons_of_mem _ hu))
    rw [List.length_cons] at hl
    unfold textB
    rw [List.length_append]
    omega
theorem flat_take (u : List Nat) {k c : Nat} (h : u[k]? = some c) : (u.take (k + 1)).flatMap escB = (u.take k).flatMap escB ++ escB c := by
  rw [List.take_add_one, h, List.flatMap_append]
  simp
theorem flat_len8 {u : List Nat} (h : u.length ≤ 8) (k : Nat) : ((u.take k).flatMap escB).length ≤ 16 := by
  have key : ∀ w : List Nat, (w.flatMap escB).length ≤ 2 * w.length := by
    intro w
    induction w with
    | nil => simp
    | cons c w ih =>
      have := escB_len c
      rw [List.flatMap_cons, List.length_append, List.length_cons]
      omega
  have := key (u.take k)
  rw [List.length_take] at this
  omega
theorem first_idx {α : Type} [DecidableEq α] (l : List α) {i : Nat} {u : α} (h : l[i]? = some u) : ∃ f : Nat, f ≤ i ∧ l[f]? = some u ∧ ∀ j, j < f → l[j]? ≠ some u := by
  induction i using Nat.strongRecOn with
  | _ i ih =>
    by_cases c : ∃ j, j < i ∧ l[j]? = some u
    · obtain ⟨j, hj, hu⟩ := c
      obtain ⟨f, h1, h2, h3⟩ := ih j hj hu
      exact ⟨f, by omega, h2, h3⟩
    · exact ⟨i, Nat.le_refl _, h, fun j hj hu => c ⟨j, hj, hu⟩⟩
end Pure

set_option maxRecDepth 100000 in
set_option maxHeartbeats 8000000 in
theorem literal_any (v0 : Value) (l : List ByteArray) (w : World) (hl : Strs w v0 l) : Calls Try.prog 11 #[v0] w (RetVal (.bool true) w) := by
  obtain ⟨ao, cap, rfl, hc1, hc2, hread⟩ := hl.read
  have L0 : Hid (Lt w (.slice none 0 0) ((l.take 0).map shortB) w) := ⟨Below.refl _ _, own_nil _ _ _ _⟩
  have RD := hide hread
  clear hl hread
  go_enter Try.func11, Try.ntmps11
  go_wp2_with fail
  go_loopg [3, 4] 4 (fun gk wv iv wx => ∃ (k : Nat) (v : Value), k ≤ l.length ∧ k ≤ 4 ∧ gk = 4 - k ∧ iv = .int .i64 k ∧ v = wv ∧ Lt w v ((l.take k).map shortB) wx)
  case atStart => exact ⟨0, _, Nat.zero_le _, Nat.zero_le _, rfl, rfl, rfl, L0.out⟩
  case round =>
    clear L0
    obtain ⟨k, v, kl, k4, rfl, rfl, rfl, hL⟩ := hrel
    by_cases hk : k < l.length ∧ k < 4
    · have d1 : decide ((k : Int) < (l.length : Int)) = true := decide_eq_true (by omega)
      have d2 : decide ((k : Int) < 4) = true := decide_eq_true (by omega)
      have wi : IntKind.i64.wrap ((k : Int) + 1) = (k : Int) + 1 := wrap_in _ (by omega) (by omega)
      have ik0 : (0 : Int) ≤ (k : Int) := by omega
      have ik1 : (k : Int) < (l.length : Int) := by omega
      obtain ⟨b, off, eao, bl, cb0⟩ := RD.out k hk.1
      subst eao
      have cb : wr.cell? ⟨b, off + k, none⟩ = some (.string (sg l k)) := (World.cell?_of_block (hL.be.block b bl)).trans cb0
      have TK : Hid ((l.take (k + 1)).map shortB = (l.take k).map shortB ++ [shortB (sg l k)]) := by
        show _ = _
        rw [List.take_add_one, List.getElem?_eq_getElem hk.1, List.map_append]
        simp only [Option.toList_some, List.map_cons, List.map_nil, sg, List.getD_eq_getElem?_getD, List.getElem?_eq_getElem hk.1, Option.getD_some]
      have CALL := hide (fun X => short_any (sg l k) X)
      have RL : ((l.take k).map shortB).length ≤ 1000 := by rw [List.length_map, List.length_take]; omega
      generalize (l.take k).map shortB = W at *
      generalize sg l k = s at *
      have HL := hide hL
      clear hL cb0
      go_wp2_with fail
      refine (CALL.out _).mono ?_
      clear CALL
      rintro e w3 ⟨rfl, hb3⟩
      generalize shortB s = t at *
      have L3 := hide (HL.out.below hb3)
      have hbA : Below w3.heap.size w3 (w3.alloc (.cells #[.string t] 9)) := (Below.refl _ _).alloc (Nat.le_refl _) _
      have L4 := hide (L3.out.below hbA)
      have NB : Hid (Blk (w3.alloc (.cells #[.string t] 9)) w3.heap.size 9 [.string t]) := heap_alloc_new _ _
      have SZ4 : Hid (w.heap.size ≤ (w3.alloc (.cells #[.string t] 9)).heap.size) := L4.out.be.size
      clear HL hb3 L3 hbA cb
      go_wp2_with (at_builtin; go_must (refine wpList_append_str rfl (.tmp 26) (.tmp 32) rfl w.heap.size v W t w3.heap.size rfl L4.out.ow rfl NB.out RL SZ4.out ?_); intro v8 w8 hown8 hgrow8)
      have L8 := hide (L4.out.add hown8 hgrow8)
      clear hown8 hgrow8 L4 NB SZ4
      go_roundg (4 - (k + 1))
      case measure => omega
      case rel => exact ⟨k + 1, v8, by omega, by omega, rfl, by go_num, rfl, by rw [TK.out]; exact L8.out⟩
    · have LN : ((l.take k).map shortB).length = k := by rw [List.length_map, List.length_take]; omega
      obtain ⟨av, cv, ev, _, _⟩ := own_fm hL.ow
      rw [LN] at ev
      subst ev
      by_cases c : k < l.length
      · have d1 : decide ((k : Int) < (l.length : Int)) = true := decide_eq_true (by omega)
        have d2 : decide ((k : Int) < 4) = false := decide_eq_false (by omega)
        have hk0 : k ≠ 0 := by omega
        have HW := hide (WB.of kl k4 hk0)
        have e0 : ((k : Int) == 0) = false := by simp; omega
        have e1 : ¬ (k : Int) = 0 := by omega
        have LT := hide hL
        clear hL
        go_upto_region 8 with (fail)
        obtain ⟨W, hW⟩ : ∃ W : List ByteArray, W = (l.take k).map shortB := ⟨_, rfl⟩
        rw [← hW] at HW LT
        clear hW LN
        generalize Value.slice av k cv = vw at *
        have n1 := HW.out.n
        have WDS := hide HW.out.wds
        obtain ⟨gw0, cw, evw, _⟩ := LT.out.get (i := 0) (List.getElem?_eq_getElem (by omega))
        subst evw
        go_wp2_with fail
        go_loopg [5, 6, 7] W.length (fun gk tv iv _ wx => ∃ (i : Nat) (t : ByteArray), i ≤ W.length ∧ gk = W.length - i ∧ Value.string t = tv ∧ iv = .int .i64 i ∧ Pure.bytesN t = Pure.textB ((W.map Pure.bytesN).take i) ∧ Lt w (.slice (some ⟨gw0, 0, none⟩) W.length cw) W wx)
        case atStart => exact ⟨0, ⟨#[]⟩, Nat.zero_le _, rfl, rfl, rfl, rfl, LT.out⟩
        case round =>
          clear LT
          obtain ⟨i, t, il, rfl, rfl, rfl, ht, hL⟩ := hrel
          have TL : t.size ≤ 300 := by have := Pure.textB_len WDS.out i; rw [← ht, Pure.bytesN_len] at this; exact this
          by_cases hi : i < W.length
          · have d4 : decide ((i : Int) < (W.length : Int)) = true := decide_eq_true (by omega)
            have wi : IntKind.i64.wrap ((i : Int) + 1) = (i : Int) + 1 := wrap_in _ (by omega) (by omega)
            have ii0 : (0 : Int) ≤ (i : Int) := by omega
            have ii1 : (i : Int) < (W.length : Int) := by omega
            obtain ⟨b, hb⟩ : ∃ b, W[i]? = some b := ⟨_, List.getElem?_eq_getElem hi⟩
            have ub := HW.out.w b (List.mem_of_getElem? hb)
            have bsz : b.size ≤ 8 := by rw [← Pure.bytesN_len]; exact ub.2
            have TT := hide (Pure.textB_take (W.map Pure.bytesN) (i := i) (u := Pure.bytesN b) (by rw [List.getElem?_map, hb]; rfl))
            obtain ⟨g', c', ev', cg⟩ := hL.get hb
            cases ev'
            have HB := hide hb
            have HT := hide ht
            have HL := hide hL
            have UB := hide ub
            clear hb ht hL ub
            by_cases h0 : i = 0
            · subst h0
              have sz1 : ¬ 9223372036854775807 < t.size + 2 := by omega
              have PREQ : Hid (Pure.bytesN (t ++ ⟨#[97, 32]⟩) = Pure.textB ((W.map Pure.bytesN).take 0) ++ [97, 32]) := by
                show _ = _
                rw [Pure.bytesN_append, HT.out]
                rfl
              have PREL : Hid ((Pure.textB ((W.map Pure.bytesN).take 0) ++ [97, 32]).length ≤ 303) := by
                have := Pure.textB_len WDS.out 0
                show _ ≤ _
                rw [List.length_append]
                simp only [List.length_cons, List.length_nil]
                omega
              rw [if_pos rfl] at TT
              generalize hpre : Pure.textB ((W.map Pure.bytesN).take 0) ++ [97, 32] = pre at PREQ PREL ⊢
              have PRE : Hid (pre = Pure.textB ((W.map Pure.bytesN).take 0) ++ ([] ++ [97, 32])) := by show _ = _; rw [← hpre]; rfl
              clear hpre HT
              go_upto_region 15 with (fail)
              clear cg
              generalize t ++ (⟨#[97, 32]⟩ : ByteArray) = t2 at *
              have HP : Hid (Pure.bytesN t2 = pre) := PREQ.out
              clear PREQ
              have t2s : t2.size ≤ 303 := by have := PREL.out; rw [← HP.out, Pure.bytesN_len] at this; exact this
              go_wp2_with fail
              go_loopg [5, 7] b.size (fun gj tv kv wx => ∃ (k : Nat) (t' : ByteArray), k ≤ b.size ∧ gj = b.size - k ∧ Value.string t' = tv ∧ kv = .int .i64 k ∧ Pure.bytesN t' = pre ++ ((Pure.bytesN b).take k).flatMap Pure.escB ∧ Lt w (.slice (some ⟨gw0, 0, none⟩) W.length cw) W wx)
              case atStart => exact ⟨0, t2, Nat.zero_le _, rfl, rfl, rfl, by rw [HP.out]; simp, HL.out⟩
              case round =>
                clear HL
                obtain ⟨kk, t', kkl, rfl, rfl, rfl, ht', hL⟩ := hrel
                have TL' : t'.size ≤ 319 := by
                  have h1 := congrArg List.length ht'
                  have h2 := PREL.out
                  have h3 := Pure.flat_len8 UB.out.2 kk
                  rw [Pure.bytesN_len, List.length_append] at h1
                  omega
                obtain ⟨g', c', ev', cg⟩ := hL.get HB.out
                cases ev'
                have cb := cg 0 b HB.out
                have HL := hide hL
                have HT' := hide ht'
                clear hL ht' cg
                by_cases hkk : kk < b.size
                · have d3 : decide ((kk : Int) < (b.size : Int)) = true := decide_eq_true (by omega)
                  have wk : IntKind.i64.wrap ((kk : Int) + 1) = (kk : Int) + 1 := wrap_in _ (by omega) (by omega)
                  have ikk0 : (0 : Int) ≤ (kk : Int) := by omega
                  have ikk1 : (kk : Int) < (b.size : Int) := by omega
                  obtain ⟨c, hc⟩ : ∃ c, (Pure.bytesN b)[kk]? = some c := ⟨_, List.getElem?_eq_getElem (by rw [Pure.bytesN_len]; exact hkk)⟩
                  have cl : c < 256 := Pure.bytesN_byt b c (List.mem_of_getElem? hc)
                  have FT := hide (Pure.flat_take (Pure.bytesN b) hc)
                  have ix := fun w => idx_str b (kk : Int) kk rfl hkk w
                  rw [Pure.bytesN_get b kk c hc] at ix
                  have CALL := hide (fun W => kescaped_any c W cl)
                  clear hc
                  go_wp2_with fail
                  refine (CALL.out _).mono ?_
                  clear CALL ix
                  rintro e w3 ⟨t3, rfl, ht3, hb3⟩
                  have L3 := hide (HL.out.below hb3)
                  have t3s : t3.size ≤ 2 := by
                    have h1 := congrArg List.length ht3
                    have h2 := Pure.escB_len c
                    rw [Pure.bytesN_len] at h1
                    omega
                  have sz : ¬ 9223372036854775807 < t'.size + t3.size := by omega
                  have NT : Hid (Pure.bytesN (t' ++ t3) = pre ++ ((Pure.bytesN b).take (kk + 1)).flatMap Pure.escB) := by
                    show _ = _
                    rw [Pure.bytesN_append, HT'.out, ht3, FT.out, List.append_assoc]
                  clear hb3 HL cb ht3 FT HT'
                  go_wp2
                  go_roundg (b.size - (kk + 1))
                  case measure => omega
                  case rel => exact ⟨kk + 1, _, by omega, rfl, rfl, by go_num, NT.out, L3.out⟩
                · have d3 : decide ((kk : Int) < (b.size : Int)) = false := decide_eq_false (by omega)
                  have sz : ¬ 9223372036854775807 < t'.size + 2 := by omega
                  have NT : Hid (Pure.bytesN (t' ++ ⟨#[32, 101]⟩) = Pure.textB ((W.map Pure.bytesN).take (0 + 1))) := by
                    show _ = _
                    rw [Pure.bytesN_append, HT'.out, TT.out, PRE.out, show (Pure.bytesN b).take kk = Pure.bytesN b from List.take_of_length_le (by rw [Pure.bytesN_len]; omega)]
                    unfold Pure.lineB
                    simp only [List.append_assoc]
                    rfl
                  clear HT'
                  go_wp2
                  go_roundg (W.length - (0 + 1))
                  case measure => omega
                  case rel => exact ⟨0 + 1, _, by omega, rfl, rfl, by go_num, NT.out, HL.out⟩
            · have d5 : decide ((0 : Int) < (i : Int)) = true := decide_eq_true (by omega)
              have h0' : 0 < i := by omega
              have sz0 : ¬ 9223372036854775807 < t.size + 1 := by omega
              have sz1 : ¬ 9223372036854775807 < t.size + 1 + 2 := by omega
              have PREQ : Hid (Pure.bytesN (t ++ ⟨#[10]⟩ ++ ⟨#[97, 32]⟩) = Pure.textB ((W.map Pure.bytesN).take i) ++ ([10] ++ [97, 32])) := by
                show _ = _
                rw [Pure.bytesN_append, Pure.bytesN_append, HT.out, List.append_assoc]
                rfl
              have PREL : Hid ((Pure.textB ((W.map Pure.bytesN).take i) ++ ([10] ++ [97, 32])).length ≤ 303) := by
                have := Pure.textB_len WDS.out i
                show _ ≤ _
                rw [List.length_append]
                simp only [List.length_cons, List.length_nil, List.length_append]
                omega
              rw [if_neg h0] at TT
              generalize hpre : Pure.textB ((W.map Pure.bytesN).take i) ++ ([10] ++ [97, 32]) = pre at PREQ PREL ⊢
              have PRE : Hid (pre = Pure.textB ((W.map Pure.bytesN).take i) ++ ([10] ++ [97, 32])) := by show _ = _; rw [← hpre]
              clear hpre HT
              go_upto_region 15 with (fail)
              clear cg
              generalize t ++ (⟨#[10]⟩ : ByteArray) ++ (⟨#[97, 32]⟩ : ByteArray) = t2 at *
              have HP : Hid (Pure.bytesN t2 = pre) := PREQ.out
              clear PREQ
              have t2s : t2.size ≤ 303 := by have := PREL.out; rw [← HP.out, Pure.bytesN_len] at this; exact this
              go_wp2_with fail
              go_loopg [5, 7] b.size (fun gj tv kv wx => ∃ (k : Nat) (t' : ByteArray), k ≤ b.size ∧ gj = b.size - k ∧ Value.string t' = tv ∧ kv = .int .i64 k ∧ Pure.bytesN t' = pre ++ ((Pure.bytesN b).take k).flatMap Pure.escB ∧ Lt w (.slice (some ⟨gw0, 0, none⟩) W.length cw) W wx)
              case atStart => exact ⟨0, t2, Nat.zero_le _, rfl, rfl, rfl, by rw [HP.out]; simp, HL.out⟩
              case round =>
                clear HL
                obtain ⟨kk, t', kkl, rfl, rfl, rfl, ht', hL⟩ := hrel
                have TL' : t'.size ≤ 319 := by
                  have h1 := congrArg List.length ht'
                  have h2 := PREL.out
                  have h3 := Pure.flat_len8 UB.out.2 kk
                  rw [Pure.bytesN_len, List.length_append] at h1
                  omega
                obtain ⟨g', c', ev', cg⟩ := hL.get HB.out
                cases ev'
                have cb := cg i b HB.out
                have HL := hide hL
                have HT' := hide ht'
                clear hL ht' cg
                by_cases hkk : kk < b.size
                · have d3 : decide ((kk : Int) < (b.size : Int)) = true := decide_eq_true (by omega)
                  have wk : IntKind.i64.wrap ((kk : Int) + 1) = (kk : Int) + 1 := wrap_in _ (by omega) (by omega)
                  have ikk0 : (0 : Int) ≤ (kk : Int) := by omega
                  have ikk1 : (kk : Int) < (b.size : Int) := by omega
                  obtain ⟨c, hc⟩ : ∃ c, (Pure.bytesN b)[kk]? = some c := ⟨_, List.getElem?_eq_getElem (by rw [Pure.bytesN_len]; exact hkk)⟩
                  have cl : c < 256 := Pure.bytesN_byt b c (List.mem_of_getElem? hc)
                  have FT := hide (Pure.flat_take (Pure.bytesN b) hc)
                  have ix := fun w => idx_str b (kk : Int) kk rfl hkk w
                  rw [Pure.bytesN_get b kk c hc] at ix
                  have CALL := hide (fun W => kescaped_any c W cl)
                  clear hc
                  go_wp2_with fail
                  refine (CALL.out _).mono ?_
                  clear CALL ix
                  rintro e w3 ⟨t3, rfl, ht3, hb3⟩
                  have L3 := hide (HL.out.below hb3)
                  have t3s : t3.size ≤ 2 := by
                    have h1 := congrArg List.length ht3
                    have h2 := Pure.escB_len c
                    rw [Pure.bytesN_len] at h1
                    omega
                  have sz : ¬ 9223372036854775807 < t'.size + t3.size := by omega
                  have NT : Hid (Pure.bytesN (t' ++ t3) = pre ++ ((Pure.bytesN b).take (kk + 1)).flatMap Pure.escB) := by
                    show _ = _
                    rw [Pure.bytesN_append, HT'.out, ht3, FT.out, List.append_assoc]
                  clear hb3 HL cb ht3 FT HT'
                  go_wp2
                  go_roundg (b.size - (kk + 1))
                  case measure => omega
                  case rel => exact ⟨kk + 1, _, by omega, rfl, rfl, by go_num, NT.out, L3.out⟩
                · have d3 : decide ((kk : Int) < (b.size : Int)) = false := decide_eq_false (by omega)
                  have sz : ¬ 9223372036854775807 < t'.size + 2 := by omega
                  have NT : Hid (Pure.bytesN (t' ++ ⟨#[32, 101]⟩) = Pure.textB ((W.map Pure.bytesN).take (i + 1))) := by
                    show _ = _
                    rw [Pure.bytesN_append, HT'.out, TT.out, PRE.out, show (Pure.bytesN b).take kk = Pure.bytesN b from List.take_of_length_le (by rw [Pure.bytesN_len]; omega)]
                    unfold Pure.lineB
                    simp only [List.append_assoc]
                    rfl
                  clear HT'
                  go_wp2
                  go_roundg (W.length - (i + 1))
                  case measure => omega
                  case rel => exact ⟨i + 1, _, by omega, rfl, rfl, by go_num, NT.out, HL.out⟩
          · have d4 : decide ((i : Int) < (W.length : Int)) = false := decide_eq_false (by omega)
            rw [List.take_of_length_le (by rw [List.length_map]; omega)] at ht
            have HO : Pure.Holds t (Pure.textB (W.map Pure.bytesN)) := by have := Pure.holds_bytes t; rwa [ht] at this
            have LNS := hide (WDS.out.lns HO)
            have T3 : Hid (t.size ≤ 300) := TL
            have HL := hide hL
            clear hL ht HO
            go_wp2_with fail
            refine (check_any t wr).mono ?_
            rintro e w3 ⟨en, no, rfl, hb3, hp⟩
            have e0 := hp.zero T3.out LNS.out (Pure.Wds.down _) WDS.out.emp WDS.out.few
            subst e0
            have L3 := hide (HL.out.below hb3)
            clear hb3 hp HL
            go_wp2_with fail
            refine (compile_any t w3).mono ?_
            rintro e w4 ⟨en, str, rfl, hb4, hp⟩
            obtain ⟨e0, es⟩ := hp.zero T3.out LNS.out (Pure.Wds.down _) WDS.out.emp WDS.out.few
            subst e0
            have ES := hide es
            clear es
            have L4 := hide (L3.out.below hb4)
            have RP := hide (Pure.comp_right LNS.out WDS.out.few)
            clear hb4 hp L3 LNS
            go_wp2_with fail
            go_loopg [12, 13, 14, 15] W.length (fun gk iv _ _ _ wx => ∃ (i : Nat), i ≤ W.length ∧ gk = W.length - i ∧ iv = .int .i64 i ∧ Lt w (.slice (some ⟨gw0, 0, none⟩) W.length cw) W wx)
            case atStart => exact ⟨0, Nat.zero_le _, rfl, rfl, L4.out⟩
            case round =>
              clear L4
              obtain ⟨m, ml, rfl, rfl, hL⟩ := hrel
              by_cases hm : m < W.length
              · have d5 : decide ((m : Int) < (W.length : Int)) = true := decide_eq_true (by omega)
                have wm : IntKind.i64.wrap ((m : Int) + 1) = (m : Int) + 1 := wrap_in _ (by omega) (by omega)
                have im0 : (0 : Int) ≤ (m : Int) := by omega
                have im1 : (m : Int) < (W.length : Int) := by omega
                obtain ⟨b, hb⟩ : ∃ b, W[m]? = some b := ⟨_, List.getElem?_eq_getElem hm⟩
                obtain ⟨f, fm, hf, hmin⟩ := Pure.first_idx W hb
                have HB := hide hb
                have HF := hide hf
                have HMIN := hide hmin
                have HL := hide hL
                clear hb hf hmin hL
                go_upto_region 28 with (fail)
                go_loopg [13] (f + 1) (fun gk fv wx => ∃ (j : Nat), j ≤ f ∧ gk = f + 1 - j ∧ fv = .int .i64 j ∧ Lt w (.slice (some ⟨gw0, 0, none⟩) W.length cw) W wx)
                case atStart => exact ⟨0, Nat.zero_le _, rfl, rfl, HL.out⟩
                case round =>
                  clear HL
                  obtain ⟨j, jf, rfl, rfl, hL⟩ := hrel
                  obtain ⟨bj, hbj⟩ : ∃ bj, W[j]? = some bj := ⟨_, List.getElem?_eq_getElem (by omega)⟩
                  obtain ⟨g', c', ev', cg⟩ := hL.get HB.out
                  cases ev'
                  have cb := cg m b HB.out
                  have cj := cg j bj hbj
                  have ij0 : (0 : Int) ≤ (j : Int) := by omega
                  have ij1 : (j : Int) < (W.length : Int) := by omega
                  have wj : IntKind.i64.wrap ((j : Int) + 1) = (j : Int) + 1 := wrap_in _ (by omega) (by omega)
                  have HL := hide hL
                  clear hL cg
                  by_cases hjf : j < f
                  · have ne : ¬ bj = b := fun e => HMIN.out j hjf (by rw [hbj, e])
                    have nl : ¬ bj.toList = b.toList := fun e => ne (by
                      rw [ByteArray.toList_eq, ByteArray.toList_eq] at e
                      exact ByteArray.ext (Array.ext' e))
                    have n1' : (bj.toList != b.toList) = true := by simpa using nl
                    have n2' : (bj.toList == b.toList) = false := by simpa using nl
                    clear hbj
                    go_wp2_with fail
                    go_quiet (fail)
                    have L5 := hide (HL.out.below (below_drewN (Below.refl _ _) nq))
                    clear HL cb cj
                    go_wp2
                    go_roundg (f + 1 - (j + 1))
                    case measure => omega
                    case rel => exact ⟨j + 1, by omega, rfl, by go_num, L5.out⟩
                  · have ejf : j = f := by omega
                    subst ejf
                    have eb : bj = b := by
                      have h1 := HF.out
                      rw [hbj] at h1
                      exact Option.some.inj h1
                    subst eb
                    clear hbj
                    go_wp2_with fail
                    go_quiet (fail)
                    have L5 := hide (HL.out.below (below_drewN (Below.refl _ _) nq))
                    clear HL cb cj
                    generalize wr.drewN nq = W6 at *
                    obtain ⟨g', c', ev', cg⟩ := L5.out.get HB.out
                    cases ev'
                    have cb := cg m bj HB.out
                    have bsz : bj.size ≤ 274877906944 := by
                      have := (HW.out.w bj (List.mem_of_getElem? HB.out)).2
                      rw [Pure.bytesN_len] at this
                      omega
                    have CALL : Hid (∀ X, Calls Try.prog 43 #[.string str, .string bj] X (RetScn (Pure.compP ((List.map Pure.bytesN W).map Pure.lnOf)) bj X)) := fun X => by rw [ES.out]; exact scanned_any _ bj X RP.out bsz
                    clear cg
                    go_wp2_with fail
                    refine (CALL.out _).mono ?_
                    clear CALL
                    rintro e w7 ⟨D, vo, hr, rfl, ho, hb7⟩
                    have RUN := Pure.lit_run WDS.out (i := m) (u := Pure.bytesN bj) (by rw [List.getElem?_map, HB.out]; rfl) (E := ⟨Pure.compP ((List.map Pure.bytesN W).map Pure.lnOf), 64, 0, bj, true⟩) rfl rfl rfl (Pure.holds_bytes bj) hr
                    obtain ⟨er, f', tk, hf', hmin'⟩ := RUN
                    have ef : f' = j := by
                      have g1 : ∀ q : Nat, (W.map Pure.bytesN)[q]? = some (Pure.bytesN bj) ↔ W[q]? = some bj := fun q => by
                        rw [List.getElem?_map]
                        cases W[q]? with
                        | none => simp
                        | some x =>
                          simp only [Option.map_some, Option.some.injEq]
                          exact ⟨fun h => Pure.bytesN_inj h, fun h => by rw [h]⟩
                      rcases Nat.lt_trichotomy f' j with c | c | c
                      · exact absurd ((g1 f').1 hf') (HMIN.out f' c)
                      · exact c
                      · exact absurd ((g1 j).2 HF.out) (hmin' j c)
                    subst ef
                    rw [tk] at ho
                    rw [Pure.bytesN_len] at ho
                    obtain ⟨go, co, eo, _, _⟩ := own_some ho (by simp)
                    have eo2 : vo = .slice (some ⟨go, 0, none⟩) 1 co := eo
                    subst eo2
                    have o0 : w7.cell? ⟨go, 0, none⟩ = some (.int .i64 (f' : Int)) := own_cell (j := 0) ho rfl
                    have o1 : w7.cell? ⟨go, 1, none⟩ = some (.int .i64 0) := own_cell (j := 1) ho rfl
                    have o2 : w7.cell? ⟨go, 2, none⟩ = some (.int .i64 (bj.size : Int)) := own_cell (j := 2) ho rfl
                    have L7 := hide (L5.out.below hb7)
                    obtain ⟨g', c', ev', cg⟩ := L7.out.get HB.out
                    cases ev'
                    have cb7 := cg m bj HB.out
                    rw [er]
                    clear hr ho hb7 cg er tk hf' hmin' L5 cb
                    go_upto_region 31 with (fail)
                    have q1 : ((f' : Int) != (f' : Int)) = false := by simp
                    have q2 : ((bj.size : Int) != (bj.size : Int)) = false := by simp
                    go_quiet (fail)
                    have L8 := hide (L7.out.below (below_drewN (Below.refl _ _) nq))
                    clear L7 cb7 o0 o1 o2
                    go_wp2
                    go_roundg (W.length - (m + 1))
                    case measure => omega
                    case rel => exact ⟨m + 1, by omega, rfl, by go_num, L8.out⟩
              · have d5 : decide ((m : Int) < (W.length : Int)) = false := decide_eq_false (by omega)
                have B9 := hide hL.be
                clear hL
                go_wp2
                go_ret
                exact ⟨rfl, B9.out⟩
      · have d1 : decide ((k : Int) < (l.length : Int)) = false := decide_eq_false (by omega)
        by_cases hk0 : k = 0
        · subst hk0
          have WN : (l.take 0).map shortB = [] := rfl
          rw [WN] at hL
          have hbA : Below wr.heap.size wr (wr.alloc (.cells #[.string ⟨#[120]⟩] 9)) := (Below.refl _ _).alloc (Nat.le_refl _) _
          have L4 := hide (hL.below hbA)
          have NB : Hid (Blk (wr.alloc (.cells #[.string ⟨#[120]⟩] 9)) wr.heap.size 9 [.string ⟨#[120]⟩]) := heap_alloc_new _ _
          have SZ4 : Hid (w.heap.size ≤ (wr.alloc (.cells #[.string ⟨#[120]⟩] 9)).heap.size) := L4.out.be.size
          clear hL hbA
          go_upto_region 8 with (at_builtin; go_must (refine wpList_append_str rfl (.tmp 37) (.tmp 38) rfl w.heap.size (.slice av 0 cv) [] ⟨#[120]⟩ wr.heap.size rfl L4.out.ow rfl NB.out (by simp) SZ4.out ?_); intro vw w8 hown8 hgrow8)
          have LT := hide (L4.out.add hown8 hgrow8)
          have HW : Hid (WB ([] ++ [⟨#[120]⟩])) := WB.one
          clear hown8 hgrow8 L4 NB SZ4 LN WN
          generalize ([] ++ [(⟨#[120]⟩ : ByteArray)] : List ByteArray) = W at *
          have n1 := HW.out.n
          have WDS := hide HW.out.wds
          obtain ⟨gw0, cw, evw, _⟩ := LT.out.get (i := 0) (List.getElem?_eq_getElem (by omega))
          subst evw
          go_wp2_with fail
          go_loopg [5, 6, 7] W.length (fun gk tv iv _ wx => ∃ (i : Nat) (t : ByteArray), i ≤ W.length ∧ gk = W.length - i ∧ Value.string t = tv ∧ iv = .int .i64 i ∧ Pure.bytesN t = Pure.textB ((W.map Pure.bytesN).take i) ∧ Lt w (.slice (some ⟨gw0, 0, none⟩) W.length cw) W wx)
          case atStart => exact ⟨0, ⟨#[]⟩, Nat.zero_le _, rfl, rfl, rfl, rfl, LT.out⟩
          case round =>
            clear LT
            obtain ⟨i, t, il, rfl, rfl, rfl, ht, hL⟩ := hrel
            have TL : t.size ≤ 300 := by have := Pure.textB_len WDS.out i; rw [← ht, Pure.bytesN_len] at this; exact this
            by_cases hi : i < W.length
            · have d4 : decide ((i : Int) < (W.length : Int)) = true := decide_eq_true (by omega)
              have wi : IntKind.i64.wrap ((i : Int) + 1) = (i : Int) + 1 := wrap_in _ (by omega) (by omega)
              have ii0 : (0 : Int) ≤ (i : Int) := by omega
              have ii1 : (i : Int) < (W.length : Int) := by omega
              obtain ⟨b, hb⟩ : ∃ b, W[i]? = some b := ⟨_, List.getElem?_eq_getElem hi⟩
              have ub := HW.out.w b (List.mem_of_getElem? hb)
              have bsz : b.size ≤ 8 := by rw [← Pure.bytesN_len]; exact ub.2
              have TT := hide (Pure.textB_take (W.map Pure.bytesN) (i := i) (u := Pure.bytesN b) (by rw [List.getElem?_map, hb]; rfl))
              obtain ⟨g', c', ev', cg⟩ := hL.get hb
              cases ev'
              have HB := hide hb
              have HT := hide ht
              have HL := hide hL
              have UB := hide ub
              clear hb ht hL ub
              by_cases h0 : i = 0
              · subst h0
                have sz1 : ¬ 9223372036854775807 < t.size + 2 := by omega
                have PREQ : Hid (Pure.bytesN (t ++ ⟨#[97, 32]⟩) = Pure.textB ((W.map Pure.bytesN).take 0) ++ [97, 32]) := by
                  show _ = _
                  rw [Pure.bytesN_append, HT.out]
                  rfl
                have PREL : Hid ((Pure.textB ((W.map Pure.bytesN).take 0) ++ [97, 32]).length ≤ 303) := by
                  have := Pure.textB_len WDS.out 0
                  show _ ≤ _
                  rw [List.length_append]
                  simp only [List.length_cons, List.length_nil]
                  omega
                rw [if_pos rfl] at TT
                generalize hpre : Pure.textB ((W.map Pure.bytesN).take 0) ++ [97, 32] = pre at PREQ PREL ⊢
                have PRE : Hid (pre = Pure.textB ((W.map Pure.bytesN).take 0) ++ ([] ++ [97, 32])) := by show _ = _; rw [← hpre]; rfl
                clear hpre HT
                go_upto_region 15 with (fail)
                clear cg
                generalize t ++ (⟨#[97, 32]⟩ : ByteArray) = t2 at *
                have HP : Hid (Pure.bytesN t2 = pre) := PREQ.out
                clear PREQ
                have t2s : t2.size ≤ 303 := by have := PREL.out; rw [← HP.out, Pure.bytesN_len] at this; exact this
                go_wp2_with fail
                go_loopg [5, 7] b.size (fun gj tv kv wx => ∃ (k : Nat) (t' : ByteArray), k ≤ b.size ∧ gj = b.size - k ∧ Value.string t' = tv ∧ kv = .int .i64 k ∧ Pure.bytesN t' = pre ++ ((Pure.bytesN b).take k).flatMap Pure.escB ∧ Lt w (.slice (some ⟨gw0, 0, none⟩) W.length cw) W wx)
                case atStart => exact ⟨0, t2, Nat.zero_le _, rfl, rfl, rfl, by rw [HP.out]; simp, HL.out⟩
                case round =>
                  clear HL
                  obtain ⟨kk, t', kkl, rfl, rfl, rfl, ht', hL⟩ := hrel
                  have TL' : t'.size ≤ 319 := by
                    have h1 := congrArg List.length ht'
                    have h2 := PREL.out
                    have h3 := Pure.flat_len8 UB.out.2 kk
                    rw [Pure.bytesN_len, List.length_append] at h1
                    omega
                  obtain ⟨g', c', ev', cg⟩ := hL.get HB.out
                  cases ev'
                  have cb := cg 0 b HB.out
                  have HL := hide hL
                  have HT' := hide ht'
                  clear hL ht' cg
                  by_cases hkk : kk < b.size
                  · have d3 : decide ((kk : Int) < (b.size : Int)) = true := decide_eq_true (by omega)
                    have wk : IntKind.i64.wrap ((kk : Int) + 1) = (kk : Int) + 1 := wrap_in _ (by omega) (by omega)
                    have ikk0 : (0 : Int) ≤ (kk : Int) := by omega
                    have ikk1 : (kk : Int) < (b.size : Int) := by omega
                    obtain ⟨c, hc⟩ : ∃ c, (Pure.bytesN b)[kk]? = some c := ⟨_, List.getElem?_eq_getElem (by rw [Pure.bytesN_len]; exact hkk)⟩
                    have cl : c < 256 := Pure.bytesN_byt b c (List.mem_of_getElem? hc)
                    have FT := hide (Pure.flat_take (Pure.bytesN b) hc)
                    have ix := fun w => idx_str b (kk : Int) kk rfl hkk w
                    rw [Pure.bytesN_get b kk c hc] at ix
                    have CALL := hide (fun W => kescaped_any c W cl)
                    clear hc
                    go_wp2_with fail
                    refine (CALL.out _).mono ?_
                    clear CALL ix
                    rintro e w3 ⟨t3, rfl, ht3, hb3⟩
                    have L3 := hide (HL.out.below hb3)
                    have t3s : t3.size ≤ 2 := by
                      have h1 := congrArg List.length ht3
                      have h2 := Pure.escB_len c
                      rw [Pure.bytesN_len] at h1
                      omega
                    have sz : ¬ 9223372036854775807 < t'.size + t3.size := by omega
                    have NT : Hid (Pure.bytesN (t' ++ t3) = pre ++ ((Pure.bytesN b).take (kk + 1)).flatMap Pure.escB) := by
                      show _ = _
                      rw [Pure.bytesN_append, HT'.out, ht3, FT.out, List.append_assoc]
                    clear hb3 HL cb ht3 FT HT'
                    go_wp2
                    go_roundg (b.size - (kk + 1))
                    case measure => omega
                    case rel => exact ⟨kk + 1, _, by omega, rfl, rfl, by go_num, NT.out, L3.out⟩
                  · have d3 : decide ((kk : Int) < (b.size : Int)) = false := decide_eq_false (by omega)
                    have sz : ¬ 9223372036854775807 < t'.size + 2 := by omega
                    have NT : Hid (Pure.bytesN (t' ++ ⟨#[32, 101]⟩) = Pure.textB ((W.map Pure.bytesN).take (0 + 1))) := by
                      show _ = _
                      rw [Pure.bytesN_append, HT'.out, TT.out, PRE.out, show (Pure.bytesN b).take kk = Pure.bytesN b from List.take_of_length_le (by rw [Pure.bytesN_len]; omega)]
                      unfold Pure.lineB
                      simp only [List.append_assoc]
                      rfl
                    clear HT'
                    go_wp2
                    go_roundg (W.length - (0 + 1))
                    case measure => omega
                    case rel => exact ⟨0 + 1, _, by omega, rfl, rfl, by go_num, NT.out, HL.out⟩
              · have d5 : decide ((0 : Int) < (i : Int)) = true := decide_eq_true (by omega)
                have h0' : 0 < i := by omega
                have sz0 : ¬ 9223372036854775807 < t.size + 1 := by omega
                have sz1 : ¬ 9223372036854775807 < t.size + 1 + 2 := by omega
                have PREQ : Hid (Pure.bytesN (t ++ ⟨#[10]⟩ ++ ⟨#[97, 32]⟩) = Pure.textB ((W.map Pure.bytesN).take i) ++ ([10] ++ [97, 32])) := by
                  show _ = _
                  rw [Pure.bytesN_append, Pure.bytesN_append, HT.out, List.append_assoc]
                  rfl
                have PREL : Hid ((Pure.textB ((W.map Pure.bytesN).take i) ++ ([10] ++ [97, 32])).length ≤ 303) := by
                  have := Pure.textB_len WDS.out i
                  show _ ≤ _
                  rw [List.length_append]
                  simp only [List.length_cons, List.length_nil, List.length_append]
                  omega
                rw [if_neg h0] at TT
                generalize hpre : Pure.textB ((W.map Pure.bytesN).take i) ++ ([10] ++ [97, 32]) = pre at PREQ PREL ⊢
                have PRE : Hid (pre = Pure.textB ((W.map Pure.bytesN).take i) ++ ([10] ++ [97, 32])) := by show _ = _; rw [← hpre]
                clear hpre HT
                go_upto_region 15 with (fail)
                clear cg
                generalize t ++ (⟨#[10]⟩ : ByteArray) ++ (⟨#[97, 32]⟩ : ByteArray) = t2 at *
                have HP : Hid (Pure.bytesN t2 = pre) := PREQ.out
                clear PREQ
                have t2s : t2.size ≤ 303 := by have := PREL.out; rw [← HP.out, Pure.bytesN_len] at this; exact this
                go_wp2_with fail
                go_loopg [5, 7] b.size (fun gj tv kv wx => ∃ (k : Nat) (t' : ByteArray), k ≤ b.size ∧ gj = b.size - k ∧ Value.string t' = tv ∧ kv = .int .i64 k ∧ Pure.bytesN t' = pre ++ ((Pure.bytesN b).take k).flatMap Pure.escB ∧ Lt w (.slice (some ⟨gw0, 0, none⟩) W.length cw) W wx)
                case atStart => exact ⟨0, t2, Nat.zero_le _, rfl, rfl, rfl, by rw [HP.out]; simp, HL.out⟩
                case round =>
                  clear HL
                  obtain ⟨kk, t', kkl, rfl, rfl, rfl, ht', hL⟩ := hrel
                  have TL' : t'.size ≤ 319 := by
                    have h1 := congrArg List.length ht'
                    have h2 := PREL.out
                    have h3 := Pure.flat_len8 UB.out.2 kk
                    rw [Pure.bytesN_len, List.length_append] at h1
                    omega
                  obtain ⟨g', c', ev', cg⟩ := hL.get HB.out
                  cases ev'
                  have cb := cg i b HB.out
                  have HL := hide hL
                  have HT' := hide ht'
                  clear hL ht' cg
                  by_cases hkk : kk < b.size
                  · have d3 : decide ((kk : Int) < (b.size : Int)) = true := decide_eq_true (by omega)
                    have wk : IntKind.i64.wrap ((kk : Int) + 1) = (kk : Int) + 1 := wrap_in _ (by omega) (by omega)
                    have ikk0 : (0 : Int) ≤ (kk : Int) := by omega
                    have ikk1 : (kk : Int) < (b.size : Int) := by omega
                    obtain ⟨c, hc⟩ : ∃ c, (Pure.bytesN b)[kk]? = some c := ⟨_, List.getElem?_eq_getElem (by rw [Pure.bytesN_len]; exact hkk)⟩
                    have cl : c < 256 := Pure.bytesN_byt b c (List.mem_of_getElem? hc)
                    have FT := hide (Pure.flat_take (Pure.bytesN b) hc)
                    have ix := fun w => idx_str b (kk : Int) kk rfl hkk w
                    rw [Pure.bytesN_get b kk c hc] at ix
                    have CALL := hide (fun W => kescaped_any c W cl)
                    clear hc
                    go_wp2_with fail
                    refine (CALL.out _).mono ?_
                    clear CALL ix
                    rintro e w3 ⟨t3, rfl, ht3, hb3⟩
                    have L3 := hide (HL.out.below hb3)
                    have t3s : t3.size ≤ 2 := by
                      have h1 := congrArg List.length ht3
                      have h2 := Pure.escB_len c
                      rw [Pure.bytesN_len] at h1
                      omega
                    have sz : ¬ 9223372036854775807 < t'.size + t3.size := by omega
                    have NT : Hid (Pure.bytesN (t' ++ t3) = pre ++ ((Pure.bytesN b).take (kk + 1)).flatMap Pure.escB) := by
                      show _ = _
                      rw [Pure.bytesN_append, HT'.out, ht3, FT.out, List.append_assoc]
                    clear hb3 HL cb ht3 FT HT'
                    go_wp2
                    go_roundg (b.size - (kk + 1))
                    case measure => omega
                    case rel => exact ⟨kk + 1, _, by omega, rfl, rfl, by go_num, NT.out, L3.out⟩
                  · have d3 : decide ((kk : Int) < (b.size : Int)) = false := decide_eq_false (by omega)
                    have sz : ¬ 9223372036854775807 < t'.size + 2 := by omega
                    have NT : Hid (Pure.bytesN (t' ++ ⟨#[32, 101]⟩) = Pure.textB ((W.map Pure.bytesN).take (i + 1))) := by
                      show _ = _
                      rw [Pure.bytesN_append, HT'.out, TT.out, PRE.out, show (Pure.bytesN b).take kk = Pure.bytesN b from List.take_of_length_le (by rw [Pure.bytesN_len]; omega)]
                      unfold Pure.lineB
                      simp only [List.append_assoc]
                      rfl
                    clear HT'
                    go_wp2
                    go_roundg (W.length - (i + 1))
                    case measure => omega
                    case rel => exact ⟨i + 1, _, by omega, rfl, rfl, by go_num, NT.out, HL.out⟩
            · have d4 : decide ((i : Int) < (W.length : Int)) = false := decide_eq_false (by omega)
              rw [List.take_of_length_le (by rw [List.length_map]; omega)] at ht
              have HO : Pure.Holds t (Pure.textB (W.map Pure.bytesN)) := by have := Pure.holds_bytes t; rwa [ht] at this
              have LNS := hide (WDS.out.lns HO)
              have T3 : Hid (t.size ≤ 300) := TL
              have HL := hide hL
              clear hL ht HO
              go_wp2_with fail
              refine (check_any t wr).mono ?_
              rintro e w3 ⟨en, no, rfl, hb3, hp⟩
              have e0 := hp.zero T3.out LNS.out (Pure.Wds.down _) WDS.out.emp WDS.out.few
              subst e0
              have L3 := hide (HL.out.below hb3)
              clear hb3 hp HL
              go_wp2_with fail
              refine (compile_any t w3).mono ?_
              rintro e w4 ⟨en, str, rfl, hb4, hp⟩
              obtain ⟨e0, es⟩ := hp.zero T3.out LNS.out (Pure.Wds.down _) WDS.out.emp WDS.out.few
              subst e0
              have ES := hide es
              clear es
              have L4 := hide (L3.out.below hb4)
              have RP := hide (Pure.comp_right LNS.out WDS.out.few)
              clear hb4 hp L3 LNS
              go_wp2_with fail
              go_loopg [12, 13, 14, 15] W.length (fun gk iv _ _ _ wx => ∃ (i : Nat), i ≤ W.length ∧ gk = W.length - i ∧ iv = .int .i64 i ∧ Lt w (.slice (some ⟨gw0, 0, none⟩) W.length cw) W wx)
              case atStart => exact ⟨0, Nat.zero_le _, rfl, rfl, L4.out⟩
              case round =>
                clear L4
                obtain ⟨m, ml, rfl, rfl, hL⟩ := hrel
                by_cases hm : m < W.length
                · have d5 : decide ((m : Int) < (W.length : Int)) = true := decide_eq_true (by omega)
                  have wm : IntKind.i64.wrap ((m : Int) + 1) = (m : Int) + 1 := wrap_in _ (by omega) (by omega)
                  have im0 : (0 : Int) ≤ (m : Int) := by omega
                  have im1 : (m : Int) < (W.length : Int) := by omega
                  obtain ⟨b, hb⟩ : ∃ b, W[m]? = some b := ⟨_, List.getElem?_eq_getElem hm⟩
                  obtain ⟨f, fm, hf, hmin⟩ := Pure.first_idx W hb
                  have HB := hide hb
                  have HF := hide hf
                  have HMIN := hide hmin
                  have HL := hide hL
                  clear hb hf hmin hL
                  go_upto_region 28 with (fail)
                  go_loopg [13] (f + 1) (fun gk fv wx => ∃ (j : Nat), j ≤ f ∧ gk = f + 1 - j ∧ fv = .int .i64 j ∧ Lt w (.slice (some ⟨gw0, 0, none⟩) W.length cw) W wx)
                  case atStart => exact ⟨0, Nat.zero_le _, rfl, rfl, HL.out⟩
                  case round =>
                    clear HL
                    obtain ⟨j, jf, rfl, rfl, hL⟩ := hrel
                    obtain ⟨bj, hbj⟩ : ∃ bj, W[j]? = some bj := ⟨_, List.getElem?_eq_getElem (by omega)⟩
                    obtain ⟨g', c', ev', cg⟩ := hL.get HB.out
                    cases ev'
                    have cb := cg m b HB.out
                    have cj := cg j bj hbj
                    have ij0 : (0 : Int) ≤ (j : Int) := by omega
                    have ij1 : (j : Int) < (W.length : Int) := by omega
                    have wj : IntKind.i64.wrap ((j : Int) + 1) = (j : Int) + 1 := wrap_in _ (by omega) (by omega)
                    have HL := hide hL
                    clear hL cg
                    by_cases hjf : j < f
                    · have ne : ¬ bj = b := fun e => HMIN.out j hjf (by rw [hbj, e])
                      have nl : ¬ bj.toList = b.toList := fun e => ne (by
                        rw [ByteArray.toList_eq, ByteArray.toList_eq] at e
                        exact ByteArray.ext (Array.ext' e))
                      have n1' : (bj.toList != b.toList) = true := by simpa using nl
                      have n2' : (bj.toList == b.toList) = false := by simpa using nl
                      clear hbj
                      go_wp2_with fail
                      go_quiet (fail)
                      have L5 := hide (HL.out.below (below_drewN (Below.refl _ _) nq))
                      clear HL cb cj
                      go_wp2
                      go_roundg (f + 1 - (j + 1))
                      case measure => omega
                      case rel => exact ⟨j + 1, by omega, rfl, by go_num, L5.out⟩
                    · have ejf : j = f := by omega
                      subst ejf
                      have eb : bj = b := by
                        have h1 := HF.out
                        rw [hbj] at h1
                        exact Option.some.inj h1
                      subst eb
                      clear hbj
                      go_wp2_with fail
                      go_quiet (fail)
                      have L5 := hide (HL.out.below (below_drewN (Below.refl _ _) nq))
                      clear HL cb cj
                      generalize wr.drewN nq = W6 at *
                      obtain ⟨g', c', ev', cg⟩ := L5.out.get HB.out
                      cases ev'
                      have cb := cg m bj HB.out
                      have bsz : bj.size ≤ 274877906944 := by
                        have := (HW.out.w bj (List.mem_of_getElem? HB.out)).2
                        rw [Pure.bytesN_len] at this
                        omega
                      have CALL : Hid (∀ X, Calls Try.prog 43 #[.string str, .string bj] X (RetScn (Pure.compP ((List.map Pure.bytesN W).map Pure.lnOf)) bj X)) := fun X => by rw [ES.out]; exact scanned_any _ bj X RP.out bsz
                      clear cg
                      go_wp2_with fail
                      refine (CALL.out _).mono ?_
                      clear CALL
                      rintro e w7 ⟨D, vo, hr, rfl, ho, hb7⟩
                      have RUN := Pure.lit_run WDS.out (i := m) (u := Pure.bytesN bj) (by rw [List.getElem?_map, HB.out]; rfl) (E := ⟨Pure.compP ((List.map Pure.bytesN W).map Pure.lnOf), 64, 0, bj, true⟩) rfl rfl rfl (Pure.holds_bytes bj) hr
                      obtain ⟨er, f', tk, hf', hmin'⟩ := RUN
                      have ef : f' = j := by
                        have g1 : ∀ q : Nat, (W.map Pure.bytesN)[q]? = some (Pure.bytesN bj) ↔ W[q]? = some bj := fun q => by
                          rw [List.getElem?_map]
                          cases W[q]? with
                          | none => simp
                          | some x =>
                            simp only [Option.map_some, Option.some.injEq]
                            exact ⟨fun h => Pure.bytesN_inj h, fun h => by rw [h]⟩
                        rcases Nat.lt_trichotomy f' j with c | c | c
                        · exact absurd ((g1 f').1 hf') (HMIN.out f' c)
                        · exact c
                        · exact absurd ((g1 j).2 HF.out) (hmin' j c)
                      subst ef
                      rw [tk] at ho
                      rw [Pure.bytesN_len] at ho
                      obtain ⟨go, co, eo, _, _⟩ := own_some ho (by simp)
                      have eo2 : vo = .slice (some ⟨go, 0, none⟩) 1 co := eo
                      subst eo2
                      have o0 : w7.cell? ⟨go, 0, none⟩ = some (.int .i64 (f' : Int)) := own_cell (j := 0) ho rfl
                      have o1 : w7.cell? ⟨go, 1, none⟩ = some (.int .i64 0) := own_cell (j := 1) ho rfl
                      have o2 : w7.cell? ⟨go, 2, none⟩ = some (.int .i64 (bj.size : Int)) := own_cell (j := 2) ho rfl
                      have L7 := hide (L5.out.below hb7)
                      obtain ⟨g', c', ev', cg⟩ := L7.out.get HB.out
                      cases ev'
                      have cb7 := cg m bj HB.out
                      rw [er]
                      clear hr ho hb7 cg er tk hf' hmin' L5 cb
                      go_upto_region 31 with (fail)
                      have q1 : ((f' : Int) != (f' : Int)) = false := by simp
                      have q2 : ((bj.size : Int) != (bj.size : Int)) = false := by simp
                      go_quiet (fail)
                      have L8 := hide (L7.out.below (below_drewN (Below.refl _ _) nq))
                      clear L7 cb7 o0 o1 o2
                      go_wp2
                      go_roundg (W.length - (m + 1))
                      case measure => omega
                      case rel => exact ⟨m + 1, by omega, rfl, by go_num, L8.out⟩
                · have d5 : decide ((m : Int) < (W.length : Int)) = false := decide_eq_false (by omega)
                  have B9 := hide hL.be
                  clear hL
                  go_wp2
                  go_ret
                  exact ⟨rfl, B9.out⟩
        · have HW := hide (WB.of kl k4 hk0)
          have e0 : ((k : Int) == 0) = false := by simp; omega
          have e1 : ¬ (k : Int) = 0 := by omega
          have LT := hide hL
          clear hL
          go_upto_region 8 with (fail)
          obtain ⟨W, hW⟩ : ∃ W : List ByteArray, W = (l.take k).map shortB := ⟨_, rfl⟩
          rw [← hW] at HW LT
          clear hW LN
          generalize Value.slice av k cv = vw at *
          have n1 := HW.out.n
          have WDS := hide HW.out.wds
          obtain ⟨gw0, cw, evw, _⟩ := LT.out.get (i := 0) (List.getElem?_eq_getElem (by omega))
          subst evw
          go_wp2_with fail
          go_loopg [5, 6, 7] W.length (fun gk tv iv _ wx => ∃ (i : Nat) (t : ByteArray), i ≤ W.length ∧ gk = W.length - i ∧ Value.string t = tv ∧ iv = .int .i64 i ∧ Pure.bytesN t = Pure.textB ((W.map Pure.bytesN).take i) ∧ Lt w (.slice (some ⟨gw0, 0, none⟩) W.length cw) W wx)
          case atStart => exact ⟨0, ⟨#[]⟩, Nat.zero_le _, rfl, rfl, rfl, rfl, LT.out⟩
          case round =>
            clear LT
            obtain ⟨i, t, il, rfl, rfl, rfl, ht, hL⟩ := hrel
            have TL : t.size ≤ 300 := by have := Pure.textB_len WDS.out i; rw [← ht, Pure.bytesN_len] at this; exact this
            by_cases hi : i < W.length
            · have d4 : decide ((i : Int) < (W.length : Int)) = true := decide_eq_true (by omega)
              have wi : IntKind.i64.wrap ((i : Int) + 1) = (i : Int) + 1 := wrap_in _ (by omega) (by omega)
              have ii0 : (0 : Int) ≤ (i : Int) := by omega
              have ii1 : (i : Int) < (W.length : Int) := by omega
              obtain ⟨b, hb⟩ : ∃ b, W[i]? = some b := ⟨_, List.getElem?_eq_getElem hi⟩
              have ub := HW.out.w b (List.mem_of_getElem? hb)
              have bsz : b.size ≤ 8 := by rw [← Pure.bytesN_len]; exact ub.2
              have TT := hide (Pure.textB_take (W.map Pure.bytesN) (i := i) (u := Pure.bytesN b) (by rw [List.getElem?_map, hb]; rfl))
              obtain ⟨g', c', ev', cg⟩ := hL.get hb
              cases ev'
              have HB := hide hb
              have HT := hide ht
              have HL := hide hL
              have UB := hide ub
              clear hb ht hL ub
              by_cases h0 : i = 0
              · subst h0
                have sz1 : ¬ 9223372036854775807 < t.size + 2 := by omega
                have PREQ : Hid (Pure.bytesN (t ++ ⟨#[97, 32]⟩) = Pure.textB ((W.map Pure.bytesN).take 0) ++ [97, 32]) := by
                  show _ = _
                  rw [Pure.bytesN_append, HT.out]
                  rfl
                have PREL : Hid ((Pure.textB ((W.map Pure.bytesN).take 0) ++ [97, 32]).length ≤ 303) := by
                  have := Pure.textB_len WDS.out 0
                  show _ ≤ _
                  rw [List.length_append]
                  simp only [List.length_cons, List.length_nil]
                  omega
                rw [if_pos rfl] at TT
                generalize hpre : Pure.textB ((W.map Pure.bytesN).take 0) ++ [97, 32] = pre at PREQ PREL ⊢
                have PRE : Hid (pre = Pure.textB ((W.map Pure.bytesN).take 0) ++ ([] ++ [97, 32])) := by show _ = _; rw [← hpre]; rfl
                clear hpre HT
                go_upto_region 15 with (fail)
                clear cg
                generalize t ++ (⟨#[97, 32]⟩ : ByteArray) = t2 at *
                have HP : Hid (Pure.bytesN t2 = pre) := PREQ.out
                clear PREQ
                have t2s : t2.size ≤ 303 := by have := PREL.out; rw [← HP.out, Pure.bytesN_len] at this; exact this
                go_wp2_with fail
                go_loopg [5, 7] b.size (fun gj tv kv wx => ∃ (k : Nat) (t' : ByteArray), k ≤ b.size ∧ gj = b.size - k ∧ Value.string t' = tv ∧ kv = .int .i64 k ∧ Pure.bytesN t' = pre ++ ((Pure.bytesN b).take k).flatMap Pure.escB ∧ Lt w (.slice (some ⟨gw0, 0, none⟩) W.length cw) W wx)
                case atStart => exact ⟨0, t2, Nat.zero_le _, rfl, rfl, rfl, by rw [HP.out]; simp, HL.out⟩
                case round =>
                  clear HL
                  obtain ⟨kk, t', kkl, rfl, rfl, rfl, ht', hL⟩ := hrel
                  have TL' : t'.size ≤ 319 := by
                    have h1 := congrArg List.length ht'
                    have h2 := PREL.out
                    have h3 := Pure.flat_len8 UB.out.2 kk
                    rw [Pure.bytesN_len, List.length_append] at h1
                    omega
                  obtain ⟨g', c', ev', cg⟩ := hL.get HB.out
                  cases ev'
                  have cb := cg 0 b HB.out
                  have HL := hide hL
                  have HT' := hide ht'
                  clear hL ht' cg
                  by_cases hkk : kk < b.size
                  · have d3 : decide ((kk : Int) < (b.size : Int)) = true := decide_eq_true (by omega)
                    have wk : IntKind.i64.wrap ((kk : Int) + 1) = (kk : Int) + 1 := wrap_in _ (by omega) (by omega)
                    have ikk0 : (0 : Int) ≤ (kk : Int) := by omega
                    have ikk1 : (kk : Int) < (b.size : Int) := by omega
                    obtain ⟨c, hc⟩ : ∃ c, (Pure.bytesN b)[kk]? = some c := ⟨_, List.getElem?_eq_getElem (by rw [Pure.bytesN_len]; exact hkk)⟩
                    have cl : c < 256 := Pure.bytesN_byt b c (List.mem_of_getElem? hc)
                    have FT := hide (Pure.flat_take (Pure.bytesN b) hc)
                    have ix := fun w => idx_str b (kk : Int) kk rfl hkk w
                    rw [Pure.bytesN_get b kk c hc] at ix
                    have CALL := hide (fun W => kescaped_any c W cl)
                    clear hc
                    go_wp2_with fail
                    refine (CALL.out _).mono ?_
                    clear CALL ix
                    rintro e w3 ⟨t3, rfl, ht3, hb3⟩
                    have L3 := hide (HL.out.below hb3)
                    have t3s : t3.size ≤ 2 := by
                      have h1 := congrArg List.length ht3
                      have h2 := Pure.escB_len c
                      rw [Pure.bytesN_len] at h1
                      omega
                    have sz : ¬ 9223372036854775807 < t'.size + t3.size := by omega
                    have NT : Hid (Pure.bytesN (t' ++ t3) = pre ++ ((Pure.bytesN b).take (kk + 1)).flatMap Pure.escB) := by
                      show _ = _
                      rw [Pure.bytesN_append, HT'.out, ht3, FT.out, List.append_assoc]
                    clear hb3 HL cb ht3 FT HT'
                    go_wp2
                    go_roundg (b.size - (kk + 1))
                    case measure => omega
                    case rel => exact ⟨kk + 1, _, by omega, rfl, rfl, by go_num, NT.out, L3.out⟩
                  · have d3 : decide ((kk : Int) < (b.size : Int)) = false := decide_eq_false (by omega)
                    have sz : ¬ 9223372036854775807 < t'.size + 2 := by omega
                    have NT : Hid (Pure.bytesN (t' ++ ⟨#[32, 101]⟩) = Pure.textB ((W.map Pure.bytesN).take (0 + 1))) := by
                      show _ = _
                      rw [Pure.bytesN_append, HT'.out, TT.out, PRE.out, show (Pure.bytesN b).take kk = Pure.bytesN b from List.take_of_length_le (by rw [Pure.bytesN_len]; omega)]
                      unfold Pure.lineB
                      simp only [List.append_assoc]
                      rfl
                    clear HT'
                    go_wp2
                    go_roundg (W.length - (0 + 1))
                    case measure => omega
                    case rel => exact ⟨0 + 1, _, by omega, rfl, rfl, by go_num, NT.out, HL.out⟩
              · have d5 : decide ((0 : Int) < (i : Int)) = true := decide_eq_true (by omega)
                have h0' : 0 < i := by omega
                have sz0 : ¬ 9223372036854775807 < t.size + 1 := by omega
                have sz1 : ¬ 9223372036854775807 < t.size + 1 + 2 := by omega
                have PREQ : Hid (Pure.bytesN (t ++ ⟨#[10]⟩ ++ ⟨#[97, 32]⟩) = Pure.textB ((W.map Pure.bytesN).take i) ++ ([10] ++ [97, 32])) := by
                  show _ = _
                  rw [Pure.bytesN_append, Pure.bytesN_append, HT.out, List.append_assoc]
                  rfl
                have PREL : Hid ((Pure.textB ((W.map Pure.bytesN).take i) ++ ([10] ++ [97, 32])).length ≤ 303) := by
                  have := Pure.textB_len WDS.out i
                  show _ ≤ _
                  rw [List.length_append]
                  simp only [List.length_cons, List.length_nil, List.length_append]
                  omega
                rw [if_neg h0] at TT
                generalize hpre : Pure.textB ((W.map Pure.bytesN).take i) ++ ([10] ++ [97, 32]) = pre at PREQ PREL ⊢
                have PRE : Hid (pre = Pure.textB ((W.map Pure.bytesN).take i) ++ ([10] ++ [97, 32])) := by show _ = _; rw [← hpre]
                clear hpre HT
                go_upto_region 15 with (fail)
                clear cg
                generalize t ++ (⟨#[10]⟩ : ByteArray) ++ (⟨#[97, 32]⟩ : ByteArray) = t2 at *
                have HP : Hid (Pure.bytesN t2 = pre) := PREQ.out
                clear PREQ
                have t2s : t2.size ≤ 303 := by have := PREL.out; rw [← HP.out, Pure.bytesN_len] at this; exact this
                go_wp2_with fail
                go_loopg [5, 7] b.size (fun gj tv kv wx => ∃ (k : Nat) (t' : ByteArray), k ≤ b.size ∧ gj = b.size - k ∧ Value.string t' = tv ∧ kv = .int .i64 k ∧ Pure.bytesN t' = pre ++ ((Pure.bytesN b).take k).flatMap Pure.escB ∧ Lt w (.slice (some ⟨gw0, 0, none⟩) W.length cw) W wx)
                case atStart => exact ⟨0, t2, Nat.zero_le _, rfl, rfl, rfl, by rw [HP.out]; simp, HL.out⟩
                case round =>
                  clear HL
                  obtain ⟨kk, t', kkl, rfl, rfl, rfl, ht', hL⟩ := hrel
                  have TL' : t'.size ≤ 319 := by
                    have h1 := congrArg List.length ht'
                    have h2 := PREL.out
                    have h3 := Pure.flat_len8 UB.out.2 kk
                    rw [Pure.bytesN_len, List.length_append] at h1
                    omega
                  obtain ⟨g', c', ev', cg⟩ := hL.get HB.out
                  cases ev'
                  have cb := cg i b HB.out
                  have HL := hide hL
                  have HT' := hide ht'
                  clear hL ht' cg
                  by_cases hkk : kk < b.size
                  · have d3 : decide ((kk : Int) < (b.size : Int)) = true := decide_eq_true (by omega)
                    have wk : IntKind.i64.wrap ((kk : Int) + 1) = (kk : Int) + 1 := wrap_in _ (by omega) (by omega)
                    have ikk0 : (0 : Int) ≤ (kk : Int) := by omega
                    have ikk1 : (kk : Int) < (b.size : Int) := by omega
                    obtain ⟨c, hc⟩ : ∃ c, (Pure.bytesN b)[kk]? = some c := ⟨_, List.getElem?_eq_getElem (by rw [Pure.bytesN_len]; exact hkk)⟩
                    have cl : c < 256 := Pure.bytesN_byt b c (List.mem_of_getElem? hc)
                    have FT := hide (Pure.flat_take (Pure.bytesN b) hc)
                    have ix := fun w => idx_str b (kk : Int) kk rfl hkk w
                    rw [Pure.bytesN_get b kk c hc] at ix
                    have CALL := hide (fun W => kescaped_any c W cl)
                    clear hc
                    go_wp2_with fail
                    refine (CALL.out _).mono ?_
                    clear CALL ix
                    rintro e w3 ⟨t3, rfl, ht3, hb3⟩
                    have L3 := hide (HL.out.below hb3)
                    have t3s : t3.size ≤ 2 := by
                      have h1 := congrArg List.length ht3
                      have h2 := Pure.escB_len c
                      rw [Pure.bytesN_len] at h1
                      omega
                    have sz : ¬ 9223372036854775807 < t'.size + t3.size := by omega
                    have NT : Hid (Pure.bytesN (t' ++ t3) = pre ++ ((Pure.bytesN b).take (kk + 1)).flatMap Pure.escB) := by
                      show _ = _
                      rw [Pure.bytesN_append, HT'.out, ht3, FT.out, List.append_assoc]
                    clear hb3 HL cb ht3 FT HT'
                    go_wp2
                    go_roundg (b.size - (kk + 1))
                    case measure => omega
                    case rel => exact ⟨kk + 1, _, by omega, rfl, rfl, by go_num, NT.out, L3.out⟩
                  · have d3 : decide ((kk : Int) < (b.size : Int)) = false := decide_eq_false (by omega)
                    have sz : ¬ 9223372036854775807 < t'.size + 2 := by omega
                    have NT : Hid (Pure.bytesN (t' ++ ⟨#[32, 101]⟩) = Pure.textB ((W.map Pure.bytesN).take (i + 1))) := by
                      show _ = _
                      rw [Pure.bytesN_append, HT'.out, TT.out, PRE.out, show (Pure.bytesN b).take kk = Pure.bytesN b from List.take_of_length_le (by rw [Pure.bytesN_len]; omega)]
                      unfold Pure.lineB
                      simp only [List.append_assoc]
                      rfl
                    clear HT'
                    go_wp2
                    go_roundg (W.length - (i + 1))
                    case measure => omega
                    case rel => exact ⟨i + 1, _, by omega, rfl, rfl, by go_num, NT.out, HL.out⟩
            · have d4 : decide ((i : Int) < (W.length : Int)) = false := decide_eq_false (by omega)
              rw [List.take_of_length_le (by rw [List.length_map]; omega)] at ht
              have HO : Pure.Holds t (Pure.textB (W.map Pure.bytesN)) := by have := Pure.holds_bytes t; rwa [ht] at this
              have LNS := hide (WDS.out.lns HO)
              have T3 : Hid (t.size ≤ 300) := TL
              have HL := hide hL
              clear hL ht HO
              go_wp2_with fail
              refine (check_any t wr).mono ?_
              rintro e w3 ⟨en, no, rfl, hb3, hp⟩
              have e0 := hp.zero T3.out LNS.out (Pure.Wds.down _) WDS.out.emp WDS.out.few
              subst e0
              have L3 := hide (HL.out.below hb3)
              clear hb3 hp HL
              go_wp2_with fail
              refine (compile_any t w3).mono ?_
              rintro e w4 ⟨en, str, rfl, hb4, hp⟩
              obtain ⟨e0, es⟩ := hp.zero T3.out LNS.out (Pure.Wds.down _) WDS.out.emp WDS.out.few
              subst e0
              have ES := hide es
              clear es
              have L4 := hide (L3.out.below hb4)
              have RP := hide (Pure.comp_right LNS.out WDS.out.few)
              clear hb4 hp L3 LNS
              go_wp2_with fail
              go_loopg [12, 13, 14, 15] W.length (fun gk iv _ _ _ wx => ∃ (i : Nat), i ≤ W.length ∧ gk = W.length - i ∧ iv = .int .i64 i ∧ Lt w (.slice (some ⟨gw0, 0, none⟩) W.length cw) W wx)
              case atStart => exact ⟨0, Nat.zero_le _, rfl, rfl, L4.out⟩
              case round =>
                clear L4
                obtain ⟨m, ml, rfl, rfl, hL⟩ := hrel
                by_cases hm : m < W.length
                · have d5 : decide ((m : Int) < (W.length : Int)) = true := decide_eq_true (by omega)
                  have wm : IntKind.i64.wrap ((m : Int) + 1) = (m : Int) + 1 := wrap_in _ (by omega) (by omega)
                  have im0 : (0 : Int) ≤ (m : Int) := by omega
                  have im1 : (m : Int) < (W.length : Int) := by omega
                  obtain ⟨b, hb⟩ : ∃ b, W[m]? = some b := ⟨_, List.getElem?_eq_getElem hm⟩
                  obtain ⟨f, fm, hf, hmin⟩ := Pure.first_idx W hb
                  have HB := hide hb
                  have HF := hide hf
                  have HMIN := hide hmin
                  have HL := hide hL
                  clear hb hf hmin hL
                  go_upto_region 28 with (fail)
                  go_loopg [13] (f + 1) (fun gk fv wx => ∃ (j : Nat), j ≤ f ∧ gk = f + 1 - j ∧ fv = .int .i64 j ∧ Lt w (.slice (some ⟨gw0, 0, none⟩) W.length cw) W wx)
                  case atStart => exact ⟨0, Nat.zero_le _, rfl, rfl, HL.out⟩
                  case round =>
                    clear HL
                    obtain ⟨j, jf, rfl, rfl, hL⟩ := hrel
                    obtain ⟨bj, hbj⟩ : ∃ bj, W[j]? = some bj := ⟨_, List.getElem?_eq_getElem (by omega)⟩
                    obtain ⟨g', c', ev', cg⟩ := hL.get HB.out
                    cases ev'
                    have cb := cg m b HB.out
                    have cj := cg j bj hbj
                    have ij0 : (0 : Int) ≤ (j : Int) := by omega
                    have ij1 : (j : Int) < (W.length : Int) := by omega
                    have wj : IntKind.i64.wrap ((j : Int) + 1) = (j : Int) + 1 := wrap_in _ (by omega) (by omega)
                    have HL := hide hL
                    clear hL cg
                    by_cases hjf : j < f
                    · have ne : ¬ bj = b := fun e => HMIN.out j hjf (by rw [hbj, e])
                      have nl : ¬ bj.toList = b.toList := fun e => ne (by
                        rw [ByteArray.toList_eq, ByteArray.toList_eq] at e
                        exact ByteArray.ext (Array.ext' e))
                      have n1' : (bj.toList != b.toList) = true := by simpa using nl
                      have n2' : (bj.toList == b.toList) = false := by simpa using nl
                      clear hbj
                      go_wp2_with fail
                      go_quiet (fail)
                      have L5 := hide (HL.out.below (below_drewN (Below.refl _ _) nq))
                      clear HL cb cj
                      go_wp2
                      go_roundg (f + 1 - (j + 1))
                      case measure => omega
                      case rel => exact ⟨j + 1, by omega, rfl, by go_num, L5.out⟩
                    · have ejf : j = f := by omega
                      subst ejf
                      have eb : bj = b := by
                        have h1 := HF.out
                        rw [hbj] at h1
                        exact Option.some.inj h1
                      subst eb
                      clear hbj
                      go_wp2_with fail
                      go_quiet (fail)
                      have L5 := hide (HL.out.below (below_drewN (Below.refl _ _) nq))
                      clear HL cb cj
                      generalize wr.drewN nq = W6 at *
                      obtain ⟨g', c', ev', cg⟩ := L5.out.get HB.out
                      cases ev'
                      have cb := cg m bj HB.out
                      have bsz : bj.size ≤ 274877906944 := by
                        have := (HW.out.w bj (List.mem_of_getElem? HB.out)).2
                        rw [Pure.bytesN_len] at this
                        omega
                      have CALL : Hid (∀ X, Calls Try.prog 43 #[.string str, .string bj] X (RetScn (Pure.compP ((List.map Pure.bytesN W).map Pure.lnOf)) bj X)) := fun X => by rw [ES.out]; exact scanned_any _ bj X RP.out bsz
                      clear cg
                      go_wp2_with fail
                      refine (CALL.out _).mono ?_
                      clear CALL
                      rintro e w7 ⟨D, vo, hr, rfl, ho, hb7⟩
                      have RUN := Pure.lit_run WDS.out (i := m) (u := Pure.bytesN bj) (by rw [List.getElem?_map, HB.out]; rfl) (E := ⟨Pure.compP ((List.map Pure.bytesN W).map Pure.lnOf), 64, 0, bj, true⟩) rfl rfl rfl (Pure.holds_bytes bj) hr
                      obtain ⟨er, f', tk, hf', hmin'⟩ := RUN
                      have ef : f' = j := by
                        have g1 : ∀ q : Nat, (W.map Pure.bytesN)[q]? = some (Pure.bytesN bj) ↔ W[q]? = some bj := fun q => by
                          rw [List.getElem?_map]
                          cases W[q]? with
                          | none => simp
                          | some x =>
                            simp only [Option.map_some, Option.some.injEq]
                            exact ⟨fun h => Pure.bytesN_inj h, fun h => by rw [h]⟩
                        rcases Nat.lt_trichotomy f' j with c | c | c
                        · exact absurd ((g1 f').1 hf') (HMIN.out f' c)
                        · exact c
                        · exact absurd ((g1 j).2 HF.out) (hmin' j c)
                      subst ef
                      rw [tk] at ho
                      rw [Pure.bytesN_len] at ho
                      obtain ⟨go, co, eo, _, _⟩ := own_some ho (by simp)
                      have eo2 : vo = .slice (some ⟨go, 0, none⟩) 1 co := eo
                      subst eo2
                      have o0 : w7.cell? ⟨go, 0, none⟩ = some (.int .i64 (f' : Int)) := own_cell (j := 0) ho rfl
                      have o1 : w7.cell? ⟨go, 1, none⟩ = some (.int .i64 0) := own_cell (j := 1) ho rfl
                      have o2 : w7.cell? ⟨go, 2, none⟩ = some (.int .i64 (bj.size : Int)) := own_cell (j := 2) ho rfl
                      have L7 := hide (L5.out.below hb7)
                      obtain ⟨g', c', ev', cg⟩ := L7.out.get HB.out
                      cases ev'
                      have cb7 := cg m bj HB.out
                      rw [er]
                      clear hr ho hb7 cg er tk hf' hmin' L5 cb
                      go_upto_region 31 with (fail)
                      have q1 : ((f' : Int) != (f' : Int)) = false := by simp
                      have q2 : ((bj.size : Int) != (bj.size : Int)) = false := by simp
                      go_quiet (fail)
                      have L8 := hide (L7.out.below (below_drewN (Below.refl _ _) nq))
                      clear L7 cb7 o0 o1 o2
                      go_wp2
                      go_roundg (W.length - (m + 1))
                      case measure => omega
                      case rel => exact ⟨m + 1, by omega, rfl, by go_num, L8.out⟩
                · have d5 : decide ((m : Int) < (W.length : Int)) = false := decide_eq_false (by omega)
                  have B9 := hide hL.be
                  clear hL
                  go_wp2
                  go_ret
                  exact ⟨rfl, B9.out⟩
end Go.Proofs.Ytmccnmgaoppogaa

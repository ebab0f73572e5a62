/-
  The walks: Nested: brackets that push and pop. (weirkeep)
-/
import Derived.Test.YtmccnmgaoppogabO1
import Derived.Test.YtmccnmgaoppogabN4
import Derived.Test.YtmccnmgaoppogabQS
import Derived.Test.YtmccnmgaoppogabJC
namespace Go.Proofs.Ytmccnmgaoppogab
open Go.RowKit

theorem tok_infoO : (Try.prog.info? 38).map (fun i => (i.zero, i.size, i.bytes)) = some (some (.agg #[.int .i64 0, .int .i64 0, .int .i64 0, .int .i64 0, .int .i64 0]), 5, 40) := by kernel_rfl
abbrev tokL (t : Pure.Tok) : List Value := [.int .i64 t.rule, .int .i64 t.pos, .int .i64 t.len, .int .i64 t.line, .int .i64 t.col]
theorem wpList_append_tok {w : World} {ops : Array Oper} {rest : List Oper} {o : Oper} {a : Act} {Q : Exit → Act → World → Prop} (hgd : o.guard = none) (s x : Operand)
    (ho : o.op = .call { callee := .builtin .append, args := #[s, x], argTypes := #[34, 34] }) (base : Nat) (v : Value) (u : List Pure.Tok) (q : Pure.Tok) (gx : Nat) (hs : a.eval s = v) (hown : w.ownsRow base 38 5 v u.length (tokCells u))
    (hx : a.eval x = .slice (some ⟨gx, 0, none⟩) 1 1) (hb : Blk w gx 38 (tokL q)) (hlen : u.length ≤ 1000000000) (hbase : base ≤ w.heap.size)
    (h : ∀ g cap w', w'.ownsRow base 38 5 (.slice (some ⟨g, 0, none⟩) (u.length + 1) cap) (u ++ [q]).length (tokCells (u ++ [q])) → w.grownBy w' v.ownBlock → (v.ownBlock = some g ∨ g = w.heap.size) → wpList Try.prog ops Q rest (a.put o.dst (.slice (some ⟨g, 0, none⟩) (u.length + 1) cap)) w') : wpList Try.prog ops Q (o :: rest) a w := by
  obtain ⟨il, hil, hl0, hl1, hl2⟩ := info_parts tok_infoO
  refine wpList_append_lies _ hgd s x 34 ho base 38 il _ 5 40 Try.underlying34 hil hl0 hl1 hl2 rfl (by decide) v u.length (tokCells u) hs hown ⟨gx, 0, none⟩ 1 1 (tokL q) hx rfl ?_ (fun z hz => by simp at hz; rcases hz with rfl | rfl | rfl | rfl | rfl <;> rfl) (by decide) (by unfold maxLen; omega) (by omega) hbase _ rfl ?_
  · intro j y hy
    have := blk_cell hb hy
    simpa [add_eq] using this
  · intro g cap w' h1 h2 h3 _
    refine h g cap w' ?_ h2 h3
    rw [List.length_append, tokCells_app]
    exact h1

/-- while the brackets are counted -/
structure Nw (w : World) (g : Nat) (E : Pure.Env) (D : Pure.Cfg) (vo vw : Value) (T : List Pure.Tok) (W : World) : Prop where
  be : Below w.heap.size w W
  sc : Sc W g E D
  o : W.ownsRow w.heap.size 38 5 vo D.toks.length (tokCells D.toks)
  t : W.ownsRow w.heap.size 38 5 vw T.length (tokCells T)
  ne : ∀ b, vo.ownBlock = some b → vw.ownBlock = some b → False
section
variable {w : World} {g : Nat} {E : Pure.Env} {D : Pure.Cfg} {vo vw : Value} {T : List Pure.Tok} {W W' : World}
theorem Nw.below (h : Nw w g E D vo vw T W) (hb : Below W.heap.size W W') : Nw w g E D vo vw T W' :=
  ⟨bel0 h.be hb, h.sc.below hb, own_below h.o hb (Nat.le_refl _), own_below h.t hb (Nat.le_refl _), h.ne⟩
theorem Nw.add (h : Nw w g E D vo vw T W) {q : Pure.Tok} {g2 cap : Nat} (ho : W'.ownsRow w.heap.size 38 5 (.slice (some ⟨g2, 0, none⟩) (T.length + 1) cap) (T ++ [q]).length (tokCells (T ++ [q]))) (hg : W.grownBy W' vw.ownBlock) (hat : vw.ownBlock = some g2 ∨ g2 = W.heap.size) : Nw w g E D vo (.slice (some ⟨g2, 0, none⟩) (T.length + 1) cap) (T ++ [q]) W' := by
  refine ⟨h.be.grown hg h.be.size (fun k e => (World.ownsRow.lt h.t k e).1), h.sc.other h.t hg, own_offK h.o (fun b e e' => h.ne b e e'.symm) hg, ho, fun b e e' => ?_⟩
  have eb : g2 = b := Option.some.inj e'
  subst eb
  rcases hat with hat | hat
  · exact h.ne g2 e hat
  · have := (World.ownsRow.lt h.o g2 e).2
    omega
end

/-- where the counting stands -/
def Np (E : Pure.Env) (p : Pure.Prg) (D : Pure.Cfg) (sz k op : Nat) (T : List Pure.Tok) (en : Int) (gk : Nat) : Prop :=
  (en = 0 ∧ gk = sz - k + 1 ∧ ∃ C, Pure.Rch E (cfg0 p) C ∧ Pure.Nsd E k op T C) ∨ (en ≠ 0 ∧ gk = 0 ∧ k < sz ∧ D.toks = T ∧ D.err = en ∧ D.pos = (k : Int) ∧ D.dep = (op : Int) ∧ D.mode = 0)

set_option maxRecDepth 100000 in
set_option maxHeartbeats 8000000 in
theorem nested_any (s : ByteArray) (dp : Int) (w : World) (hs : s.size ≤ 100000000) (hd0 : -9223372036854775808 ≤ dp) (hd1 : dp ≤ 9223372036854775807) : Calls Try.prog 5 #[.string s, .int .i64 dp] w (RetVal (.bool true) w) := by
  obtain ⟨dn, hdn, dn8⟩ : ∃ dn : Nat, Pure.pk dp 9 = (dn : Int) ∧ dn ≤ 8 := by
    have h1 : 0 ≤ Pure.pk dp 9 := by unfold Pure.pk; omega
    have h2 : Pure.pk dp 9 < 9 := by unfold Pure.pk; omega
    exact ⟨(Pure.pk dp 9).toNat, by omega, by omega⟩
  have PICK := hide (pick_big dp 9 w hd0 hd1 (by omega) (by omega))
  rw [hdn] at PICK
  clear hdn hd0 hd1
  go_enter Try.func5, Try.ntmps5
  go_wp2_with fail
  refine PICK.out.mono ?_
  clear PICK
  rintro e w1 ⟨rfl, rfl⟩
  go_wp2_with fail
  refine (compile_any Pure.nestT w1).mono ?_
  rintro e w2 ⟨en0, str, rfl, hb2, hp⟩
  obtain ⟨e0, es⟩ := hp.zero (by decide) Pure.nest_lns Pure.nest_dn Pure.nest_em Pure.nest_few
  subst e0
  have rp := Pure.comp_right Pure.nest_lns Pure.nest_few
  have fm := img_form rp
  have isz := img_size rp
  rw [← es] at fm isz
  have START := hide (start_any str 1 (dn : Int) w2 isz (by unfold Rng; omega) (by unfold Rng; omega))
  have FM := hide fm
  have RP := hide rp
  have B2 := hide hb2
  clear hp es fm isz rp hb2
  go_wp2_with fail
  refine START.out.mono ?_
  clear START
  rintro e w3 (⟨_, g, rfl, hg, hb3, hSc⟩ | ⟨hn, _⟩ | ⟨_, hn, _⟩)
  · rw [FM.out.2] at hSc
    have hbA : Below w3.heap.size w3 (w3.alloc (.cells #[.string s] 9)) := (Below.refl _ _).alloc (Nat.le_refl _) _
    have SC := hide (Sc.below hSc hbA)
    have OS := hide (own_string w3 s)
    have B3 := hide (bel0 (bel0 B2.out hb3) hbA)
    have HG : Hid (w1.heap.size ≤ g) := Nat.le_trans B2.out.size hg
    clear hSc hbA hb3 hg B2
    go_wp2_with fail
    refine (told_any g (Pure.compP Pure.nestL) 1 (dn : Int) _ [s] _ SC.out OS.out (by rw [one_sum]; omega) (by simp)).mono ?_
    rintro e w4 ⟨D, vo, hr, rfl, ho, hsc, hg4⟩
    rw [envF_eq _ 1 (dn : Int) [s] s (one_cat s)] at hr hsc
    have N4 : Hid (Nw w1 g ⟨Pure.compP Pure.nestL, 1, (dn : Int), s, true⟩ D vo (.slice none 0 0) [] w4) := ⟨B3.out.grown hg4 B3.out.size (fun k e => by cases e; exact HG.out), hsc, own_mono ho B3.out.size, own_nil _ _ _ _, fun b _ e => by cases e⟩
    obtain ⟨ao, co, rfl, -⟩ := own_read ho
    have RUN := hide hr
    generalize Value.slice ao D.toks.length co = vo at *
    clear hr ho hsc hg4 SC OS B3 HG FM RP
    generalize w1 = w at *
    go_wp2_with fail
    go_loopg [12, 13, 14, 15, 16] (s.size + 1) (fun gk wv ov ev kv _ wx => ∃ (k op : Nat) (T : List Pure.Tok) (vw : Value) (en : Int), k ≤ s.size ∧ op ≤ dn ∧ vw = wv ∧ ov = .int .i64 op ∧ ev = .int .i64 en ∧ kv = .int .i64 k ∧ T.length ≤ k ∧ Np ⟨Pure.compP Pure.nestL, 1, (dn : Int), s, true⟩ (Pure.compP Pure.nestL) D s.size k op T en gk ∧ Nw w g ⟨Pure.compP Pure.nestL, 1, (dn : Int), s, true⟩ D vo vw T wx)
    case atStart => exact ⟨0, 0, [], _, 0, Nat.zero_le _, Nat.zero_le _, rfl, rfl, rfl, rfl, Nat.le_refl _, .inl ⟨rfl, rfl, _, .refl _, Pure.nst0 ⟨Pure.compP Pure.nestL, 1, (dn : Int), s, true⟩⟩, N4.out⟩
    case round =>
      clear N4
      obtain ⟨k, op, T, vw, en, kl, opl, rfl, rfl, rfl, rfl, Tl, hP, hN⟩ := hrel
      have HN := hide hN
      clear hN
      rcases hP with ⟨rfl, rfl, C, hR, hC⟩ | ⟨hen, rfl, ks, f1, f2, f3, f4, f5⟩
      · by_cases hk : k < s.size
        · have d1 : decide ((k : Int) < (s.size : Int)) = true := decide_eq_true (by omega)
          have ik0 : (0 : Int) ≤ (k : Int) := by omega
          have ik1 : (k : Int) < (s.size : Int) := by omega
          have wi : IntKind.i64.wrap ((k : Int) + 1) = (k : Int) + 1 := wrap_in _ (by omega) (by omega)
          obtain ⟨c, hc⟩ : ∃ c : Nat, bt s k = (c : Int) := ⟨(bt s k).toNat, by have := bt_bd s k; omega⟩
          have ix := fun w => idx_str s (k : Int) k rfl hk w
          rw [hc] at ix
          obtain ⟨F, hRF, hF⟩ := Pure.nest_step (E := ⟨Pure.compP Pure.nestL, 1, (dn : Int), s, true⟩) rfl rfl hC hk hc
          have hRF := hR.trans hRF
          have ERR : F.err ≠ 0 → D = F := fun h => RUN.out.end hRF (Pure.mic_err h)
          have HRF := hide hRF
          have HERR := hide ERR
          clear hR hC hc ERR hRF
          rcases hF with ⟨c40, hd, g1, g2, g3, g4, g5⟩ | ⟨c40, hd, hN2⟩ | ⟨c41, hd, g1, g2, g3, g4, g5⟩ | ⟨c41, hd, hN2⟩ | ⟨c10, g1, g2, g3, g4, g5⟩ | ⟨n40, n41, n10, hN2⟩
          · have FP : Hid (Np ⟨Pure.compP Pure.nestL, 1, (dn : Int), s, true⟩ (Pure.compP Pure.nestL) D s.size k op T 6 0) := by
              have e := HERR.out (by rw [g1]; decide)
              exact .inr ⟨by decide, rfl, hk, by rw [e]; exact g2, by rw [e]; exact g1, by rw [e]; exact g3, by rw [e]; exact g4, by rw [e]; exact g5⟩
            clear g1 g2 g3 g4 g5 HERR HRF
            subst c40
            push_cast at ix
            have hd' : (dn : Int) ≤ (op : Int) := hd
            have eod : op = dn := by omega
            subst eod
            go_wp2
            go_roundg 0
            case measure => omega
            case rel => exact ⟨k, op, T, vw, 6, kl, opl, rfl, rfl, rfl, rfl, Tl, FP.out, HN.out⟩
          · have NP : Hid (Np ⟨Pure.compP Pure.nestL, 1, (dn : Int), s, true⟩ (Pure.compP Pure.nestL) D s.size (k + 1) (op + 1) (T ++ [⟨0, (k : Int), 1, 1, (k : Int) + 1⟩]) 0 (s.size - (k + 1) + 1)) := .inl ⟨rfl, rfl, F, HRF.out, hN2⟩
            clear hN2 HERR HRF
            subst c40
            push_cast at ix
            have hd' : (op : Int) < (dn : Int) := hd
            have eo : ((op : Int) == (dn : Int)) = false := by simp; omega
            have eo2 : ¬ (op : Int) = (dn : Int) := by omega
            have wo : IntKind.i64.wrap ((op : Int) + 1) = (op : Int) + 1 := wrap_in _ (by omega) (by omega)
            have hbA : Below wr.heap.size wr (wr.alloc (.cells #[.int .i64 0, .int .i64 (k : Int), .int .i64 1, .int .i64 1, .int .i64 ((k : Int) + 1)] 38)) := (Below.refl _ _).alloc (Nat.le_refl _) _
            have NA := hide (HN.out.below hbA)
            have NB : Hid (Blk (wr.alloc (.cells #[.int .i64 0, .int .i64 (k : Int), .int .i64 1, .int .i64 1, .int .i64 ((k : Int) + 1)] 38)) wr.heap.size 38 (tokL ⟨0, (k : Int), 1, 1, (k : Int) + 1⟩)) := heap_alloc_new _ _
            have SZ : Hid (w.heap.size ≤ (wr.alloc (.cells #[.int .i64 0, .int .i64 (k : Int), .int .i64 1, .int .i64 1, .int .i64 ((k : Int) + 1)] 38)).heap.size) := NA.out.be.size
            clear hbA HN
            go_wp2_with (at_builtin; go_must (refine wpList_append_tok rfl (.tmp 80) (.tmp 85) rfl w.heap.size vw T ⟨0, (k : Int), 1, 1, (k : Int) + 1⟩ wr.heap.size rfl NA.out.t rfl NB.out (by omega) SZ.out ?_); intro g8 c8 w8 hown8 hgrow8 hat8)
            have N8 := hide (NA.out.add hown8 hgrow8 hat8)
            clear hown8 hgrow8 hat8 NA NB SZ
            go_roundg (s.size - (k + 1) + 1)
            case measure => omega
            case rel => exact ⟨k + 1, (op + 1), T ++ [⟨0, (k : Int), 1, 1, (k : Int) + 1⟩], _, 0, by omega, by omega, rfl, by go_num, rfl, by go_num, by simp; omega, NP.out, N8.out⟩
          · have FP : Hid (Np ⟨Pure.compP Pure.nestL, 1, (dn : Int), s, true⟩ (Pure.compP Pure.nestL) D s.size k op T 7 0) := by
              have e := HERR.out (by rw [g1]; decide)
              exact .inr ⟨by decide, rfl, hk, by rw [e]; exact g2, by rw [e]; exact g1, by rw [e]; exact g3, by rw [e]; exact g4, by rw [e]; exact g5⟩
            clear g1 g2 g3 g4 g5 HERR HRF
            subst c41
            push_cast at ix
            subst hd
            go_wp2
            go_roundg 0
            case measure => omega
            case rel => exact ⟨k, 0, T, vw, 7, kl, opl, rfl, rfl, rfl, rfl, Tl, FP.out, HN.out⟩
          · have NP : Hid (Np ⟨Pure.compP Pure.nestL, 1, (dn : Int), s, true⟩ (Pure.compP Pure.nestL) D s.size (k + 1) (op - 1) (T ++ [⟨1, (k : Int), 1, 1, (k : Int) + 1⟩]) 0 (s.size - (k + 1) + 1)) := .inl ⟨rfl, rfl, F, HRF.out, hN2⟩
            clear hN2 HERR HRF
            subst c41
            push_cast at ix
            have eo : ((op : Int) == 0) = false := by simp; omega
            have eo2 : ¬ (op : Int) = 0 := by omega
            have wo : IntKind.i64.wrap ((op : Int) - 1) = ((op - 1 : Nat) : Int) := by rw [wrap_in _ (by omega) (by omega)]; omega
            have hbA : Below wr.heap.size wr (wr.alloc (.cells #[.int .i64 1, .int .i64 (k : Int), .int .i64 1, .int .i64 1, .int .i64 ((k : Int) + 1)] 38)) := (Below.refl _ _).alloc (Nat.le_refl _) _
            have NA := hide (HN.out.below hbA)
            have NB : Hid (Blk (wr.alloc (.cells #[.int .i64 1, .int .i64 (k : Int), .int .i64 1, .int .i64 1, .int .i64 ((k : Int) + 1)] 38)) wr.heap.size 38 (tokL ⟨1, (k : Int), 1, 1, (k : Int) + 1⟩)) := heap_alloc_new _ _
            have SZ : Hid (w.heap.size ≤ (wr.alloc (.cells #[.int .i64 1, .int .i64 (k : Int), .int .i64 1, .int .i64 1, .int .i64 ((k : Int) + 1)] 38)).heap.size) := NA.out.be.size
            clear hbA HN
            go_wp2_with (at_builtin; go_must (refine wpList_append_tok rfl (.tmp 92) (.tmp 97) rfl w.heap.size vw T ⟨1, (k : Int), 1, 1, (k : Int) + 1⟩ wr.heap.size rfl NA.out.t rfl NB.out (by omega) SZ.out ?_); intro g8 c8 w8 hown8 hgrow8 hat8)
            have N8 := hide (NA.out.add hown8 hgrow8 hat8)
            clear hown8 hgrow8 hat8 NA NB SZ
            go_roundg (s.size - (k + 1) + 1)
            case measure => omega
            case rel => exact ⟨k + 1, (op - 1), T ++ [⟨1, (k : Int), 1, 1, (k : Int) + 1⟩], _, 0, by omega, by omega, rfl, by go_num, rfl, by go_num, by simp; omega, NP.out, N8.out⟩
          · have FP : Hid (Np ⟨Pure.compP Pure.nestL, 1, (dn : Int), s, true⟩ (Pure.compP Pure.nestL) D s.size k op T 4 0) := by
              have e := HERR.out (by rw [g1]; decide)
              exact .inr ⟨by decide, rfl, hk, by rw [e]; exact g2, by rw [e]; exact g1, by rw [e]; exact g3, by rw [e]; exact g4, by rw [e]; exact g5⟩
            clear g1 g2 g3 g4 g5 HERR HRF
            subst c10
            push_cast at ix
            go_wp2
            go_roundg 0
            case measure => omega
            case rel => exact ⟨k, op, T, vw, 4, kl, opl, rfl, rfl, rfl, rfl, Tl, FP.out, HN.out⟩
          · have NP : Hid (Np ⟨Pure.compP Pure.nestL, 1, (dn : Int), s, true⟩ (Pure.compP Pure.nestL) D s.size (k + 1) op T 0 (s.size - (k + 1) + 1)) := .inl ⟨rfl, rfl, F, HRF.out, hN2⟩
            clear hN2 HERR HRF
            have f40 : ((c : Int) == 40) = false := by simp; omega
            have f41 : ((c : Int) == 41) = false := by simp; omega
            have f10 : ((c : Int) == 10) = false := by simp; omega
            have e40 : ¬ (c : Int) = 40 := by omega
            have e41 : ¬ (c : Int) = 41 := by omega
            have e10 : ¬ (c : Int) = 10 := by omega
            go_wp2
            go_roundg (s.size - (k + 1) + 1)
            case measure => omega
            case rel => exact ⟨k + 1, op, T, vw, 0, by omega, opl, rfl, rfl, rfl, by go_num, by omega, NP.out, HN.out⟩
        · have d1 : decide ((k : Int) < (s.size : Int)) = false := decide_eq_false (by omega)
          have eD : D = C := RUN.out.end hR (by
            unfold Pure.mic
            rw [if_pos (.inr (by rw [hC.pos]; show (s.size : Int) ≤ (k : Int); omega))])
          have FINP : Hid (D.toks = T ∧ D.err = 0 ∧ D.pos = (k : Int) ∧ D.dep = (op : Int) ∧ D.mode = 0) := by
            rw [eD]
            exact ⟨hC.toks, hC.err, hC.pos, hC.dep, hC.mode⟩
          clear eD hR hC
          have PE : Hid (D.toks = T ∧ D.err = 0 ∧ D.pos = (k : Int) ∧ D.dep = (op : Int) ∧ D.mode = 0) := FINP.out
          clear FINP
          go_wp2_with fail
          refine (scState_any g ⟨Pure.compP Pure.nestL, 1, (dn : Int), s, true⟩ D wr HN.out.sc).mono ?_
          rintro e w8 ⟨rfl, hb8⟩
          have N8 := hide (HN.out.below hb8)
          clear hb8 HN
          unfold stateV
          generalize (heldOf ⟨Pure.compP Pure.nestL, 1, (dn : Int), s, true⟩ D).size = hz at *
          have hbA : Below w8.heap.size w8 (w8.alloc (.cells #[.int .i64 D.pos, .int .i64 D.line, .int .i64 D.col, .int .i64 D.mode, .int .i64 D.dep, .int .i64 (hz : Int), .int .i64 D.steps] 46)) := (Below.refl _ _).alloc (Nat.le_refl _) _
          have N9 := hide (N8.out.below hbA)
          have SB : Hid (Blk (w8.alloc (.cells #[.int .i64 D.pos, .int .i64 D.line, .int .i64 D.col, .int .i64 D.mode, .int .i64 D.dep, .int .i64 (hz : Int), .int .i64 D.steps] 46)) w8.heap.size 46 [.int .i64 D.pos, .int .i64 D.line, .int .i64 D.col, .int .i64 D.mode, .int .i64 D.dep, .int .i64 (hz : Int), .int .i64 D.steps]) := heap_alloc_new _ _
          clear N8 hbA
          go_upto_region 28 with (fail)
          generalize w8.alloc (.cells #[.int .i64 D.pos, .int .i64 D.line, .int .i64 D.col, .int .i64 D.mode, .int .i64 D.dep, .int .i64 (hz : Int), .int .i64 D.steps] 46) = W9 at *
          generalize w8.heap.size = gS at *
          have SAME := hide (sameTokens_eq vo vw T W9 w.heap.size w.heap.size (by have := N9.out.o; rw [PE.out.1] at this; exact this) N9.out.t)
          go_wp2_with fail
          refine SAME.out.mono ?_
          clear SAME
          rintro e w10 ⟨rfl, hb10⟩
          have B10 := hide (bel0 N9.out.be hb10)
          have SB10 := hide (blk_below SB.out hb10 (blk_lt SB.out))
          have s0 := blk_cell (j := 0) SB10.out rfl
          have s3 := blk_cell (j := 3) SB10.out rfl
          have s4 := blk_cell (j := 4) SB10.out rfl
          rw [PE.out.2.2.1] at s0
          rw [PE.out.2.2.2.2] at s3
          rw [PE.out.2.2.2.1] at s4
          rw [PE.out.2.1]
          have q1 : ((0 : Int) == 0) = true := by simp
          have q2 : ((k : Int) == (k : Int)) = true := by simp
          have q3 : ((op : Int) == (op : Int)) = true := by simp
          clear hb10 N9 SB SB10
          go_wp2
          go_ret
          exact ⟨rfl, B10.out⟩
      · have d1 : decide ((k : Int) < (s.size : Int)) = true := decide_eq_true (by omega)
        have d2 : (en == 0) = false := by simpa using hen
        have FINP : Hid (D.toks = T ∧ D.err = en ∧ D.pos = (k : Int) ∧ D.dep = (op : Int) ∧ D.mode = 0) := ⟨f1, f2, f3, f4, f5⟩
        clear f1 f2 f3 f4 f5
        have PE : Hid (D.toks = T ∧ D.err = en ∧ D.pos = (k : Int) ∧ D.dep = (op : Int) ∧ D.mode = 0) := FINP.out
        clear FINP
        go_wp2_with fail
        refine (scState_any g ⟨Pure.compP Pure.nestL, 1, (dn : Int), s, true⟩ D wr HN.out.sc).mono ?_
        rintro e w8 ⟨rfl, hb8⟩
        have N8 := hide (HN.out.below hb8)
        clear hb8 HN
        unfold stateV
        generalize (heldOf ⟨Pure.compP Pure.nestL, 1, (dn : Int), s, true⟩ D).size = hz at *
        have hbA : Below w8.heap.size w8 (w8.alloc (.cells #[.int .i64 D.pos, .int .i64 D.line, .int .i64 D.col, .int .i64 D.mode, .int .i64 D.dep, .int .i64 (hz : Int), .int .i64 D.steps] 46)) := (Below.refl _ _).alloc (Nat.le_refl _) _
        have N9 := hide (N8.out.below hbA)
        have SB : Hid (Blk (w8.alloc (.cells #[.int .i64 D.pos, .int .i64 D.line, .int .i64 D.col, .int .i64 D.mode, .int .i64 D.dep, .int .i64 (hz : Int), .int .i64 D.steps] 46)) w8.heap.size 46 [.int .i64 D.pos, .int .i64 D.line, .int .i64 D.col, .int .i64 D.mode, .int .i64 D.dep, .int .i64 (hz : Int), .int .i64 D.steps]) := heap_alloc_new _ _
        clear N8 hbA
        go_upto_region 28 with (fail)
        generalize w8.alloc (.cells #[.int .i64 D.pos, .int .i64 D.line, .int .i64 D.col, .int .i64 D.mode, .int .i64 D.dep, .int .i64 (hz : Int), .int .i64 D.steps] 46) = W9 at *
        generalize w8.heap.size = gS at *
        have SAME := hide (sameTokens_eq vo vw T W9 w.heap.size w.heap.size (by have := N9.out.o; rw [PE.out.1] at this; exact this) N9.out.t)
        go_wp2_with fail
        refine SAME.out.mono ?_
        clear SAME
        rintro e w10 ⟨rfl, hb10⟩
        have B10 := hide (bel0 N9.out.be hb10)
        have SB10 := hide (blk_below SB.out hb10 (blk_lt SB.out))
        have s0 := blk_cell (j := 0) SB10.out rfl
        have s3 := blk_cell (j := 3) SB10.out rfl
        have s4 := blk_cell (j := 4) SB10.out rfl
        rw [PE.out.2.2.1] at s0
        rw [PE.out.2.2.2.2] at s3
        rw [PE.out.2.2.2.1] at s4
        rw [PE.out.2.1]
        have q1 : (en == en) = true := by simp
        have q2 : ((k : Int) == (k : Int)) = true := by simp
        have q3 : ((op : Int) == (op : Int)) = true := by simp
        clear hb10 N9 SB SB10
        go_wp2
        go_ret
        exact ⟨rfl, B10.out⟩
  · exact absurd ⟨FM.out.1, by rw [FM.out.2]; exact RP.out⟩ hn
  · exact absurd ⟨⟨by omega, by omega⟩, ⟨by omega, by omega⟩⟩ hn

end Go.Proofs.Ytmccnmgaoppogab

/-
  The walks: the document's again. (weirref)
-/
import Derived.Test.YtmccnmgaoppogaaGreatD4
namespace Go.Proofs.YtmccnmgaoppogaaGreat
open Go.RowKit

theorem Pure.look_keeps {E : Pure.Env} {C D : Pure.Cfg} : (Pure.look E C = .go D → D.stk = C.stk ∧ D.dep = C.dep) ∧ (∀ e, Pure.look E C = .stop D e → D.stk = C.stk ∧ D.dep = C.dep) := by
  unfold Pure.look
  simp only
  refine ⟨fun h => ?_, fun e h => ?_⟩
  all_goals
    repeat' split at h
    all_goals first | cases h; exact ⟨rfl, rfl⟩ | cases h

theorem Pure.Rch.still {E : Pure.Env} {f : Nat → Int} (g : Pure.Good E f) {C D : Pure.Cfg} (r : Pure.Rch E C D) (h : Pure.Sta E f C) : C.pos ≤ D.pos ∧ (D.pos = C.pos → D.err = 0 → D.stk = C.stk ∧ D.dep = C.dep) := by
  induction r with
  | refl => exact ⟨Int.le_refl _, fun _ _ => ⟨rfl, rfl⟩⟩
  | @step G F r1 hm ih =>
    have hG := r1.inv g h
    unfold Pure.mic at hm
    split at hm
    · cases hm
    · rename_i hc
      have he : G.err = 0 := by
        by_cases e : G.err = 0
        · exact e
        · exact absurd (.inl e) hc
      cases hl : Pure.look E G with
      | wait => rw [hl] at hm; cases hm
      | go F' =>
        rw [hl] at hm
        cases hm
        have q := Pure.look_go g hG he hl
        have k := Pure.look_keeps.1 hl
        refine ⟨by rw [q.2.2.1]; exact ih.1, fun hp _ => ?_⟩
        have := ih.2 (by rw [← q.2.2.1]; exact hp) he
        exact ⟨k.1.trans this.1, k.2.trans this.2⟩
      | stop F' e =>
        rw [hl] at hm
        cases hm
        have q := Pure.look_stop g hG he hl
        unfold Pure.take
        split
        · refine ⟨by show C.pos ≤ F'.pos; rw [q.2.1]; exact ih.1, fun _ hz => ?_⟩
          exact absurd hz (by assumption)
        · split
          · refine ⟨by show C.pos ≤ F'.pos; rw [q.2.1]; exact ih.1, fun _ hz => ?_⟩
            exact absurd hz (by assumption)
          · rename_i hne hw
            have t := Pure.took_inv g q.1 (by omega)
            have := ih.1
            exact ⟨by have := t.2.2.1; omega, fun hp _ => by have := t.2.2.1; omega⟩

theorem sta1 {E : Pure.Env} {f : Nat → Int} (g : Pure.Good E f) : Pure.Sta E f (cfg0 E.p) := by
  have g0 : Pure.Good (env0 E.p E.most E.depth) f := ⟨g.right, g.most, g.depth, g.f0, g.f1⟩
  have h := (sta0 g0).on E.s E.ended
  have e : (env0 E.p E.most E.depth).on E.s E.ended = E := by
    unfold Pure.Env.on env0
    have : noBytes ++ E.s = E.s := by
      apply ByteArray.ext
      simp [noBytes]
    simp only [this]
  rw [e] at h
  exact h

section
variable {B : Nat} {w0 : World} {gr gs : Nat} {E : Pure.Env} {ve vr vc : Value} {rest : List Value} {C D : Pure.Cfg} {vst vtk : Value} {W W' : World}
theorem TR.moved (h : TR B w0 gr gs E ve vr vc rest C vst vtk W) (hm : RM W' gr gs E ve vr vc rest D vst vtk) (hg : W.grownBy W' (some gr)) (h1 : D.dep = C.dep) (h2 : D.stk = C.stk) (h3 : D.toks = C.toks) : TR B w0 gr gs E ve vr vc rest D vst vtk W' :=
  ⟨hm, by rw [h1, h2]; exact own_apart h.st h.m.blk (by decide) hg, by rw [h3]; exact own_apart h.tk h.m.blk (by decide) hg, h.lo, below_grown h.be h.sz hg (fun g e => by cases e; exact h.hB), h.hB⟩
end

section
variable {B : Nat} {w0 : World} {gr gs : Nat} {E : Pure.Env} {ve vr vc : Value} {rest : List Value} {C : Pure.Cfg} {vst vtk : Value} {W : World}
theorem TR.sought (h : TR B w0 gr gs E ve vr vc rest C vst vtk W) {gg : Nat} {ys : List Value} (hb : Blk W gg 247 ys) (hy : ys.length = 4) (h4 : gr ≠ gg) (h5 : gs ≠ gg) (hB : B ≤ gg) (a b c d : Value) :
    TR B w0 gr gs E ve vr vc rest C vst vtk ((((W.setCell ⟨gg, 0, none⟩ a).setCell ⟨gg, 1, none⟩ b).setCell ⟨gg, 2, none⟩ c).setCell ⟨gg, 3, none⟩ d) ∧ Blk ((((W.setCell ⟨gg, 0, none⟩ a).setCell ⟨gg, 1, none⟩ b).setCell ⟨gg, 2, none⟩ c).setCell ⟨gg, 3, none⟩ d) gg 247 [a, b, c, d] := by
  match ys, hy with
  | [y0, y1, y2, y3], _ =>
    have t1 := h.out hb (by decide) (by decide) (by decide) (by decide) h4 h5 hB 0 a
    have b1 := blk_set hb 0 a
    have t2 := t1.out b1 (by decide) (by decide) (by decide) (by decide) h4 h5 hB 1 b
    have b2 := blk_set b1 1 b
    have t3 := t2.out b2 (by decide) (by decide) (by decide) (by decide) h4 h5 hB 2 c
    have b3 := blk_set b2 2 c
    exact ⟨t3.out b3 (by decide) (by decide) (by decide) (by decide) h4 h5 hB 3 d, blk_set b3 3 d⟩
end

theorem Pure.mic_stop {E : Pure.Env} {C D : Pure.Cfg} {e : Int} (h : C.err = 0) (hp : C.pos < E.s.size) (hl : Pure.look E C = .stop D e) : Pure.mic E C = some (Pure.take E D e) := by
  unfold Pure.mic
  rw [if_neg (by omega), hl]
theorem Pure.mic_wait {E : Pure.Env} {C : Pure.Cfg} (hl : Pure.look E C = .wait) : Pure.mic E C = none := by
  unfold Pure.mic
  split
  · rfl
  · rw [hl]

def RetAgain (gs : Nat) (E : Pure.Env) (ve vr vc : Value) (rest : List Value) (w : World) (e : Ending) (w' : World) : Prop :=
  ∃ D vst vtk, Pure.Runs E (cfg0 E.p) D ∧ e = .returned (.pointer (some ⟨w.heap.size, 0, none⟩)) ∧ TR w.heap.size w w.heap.size gs E ve vr vc rest D vst vtk w'

/-- what is carried through the rounds -/
structure AgInv (f : Nat → Int) (gs : Nat) (E : Pure.Env) (ve vr vc : Value) (rest : List Value) (w : World) (D : Pure.Cfg) (vst vtk : Value) (W : World) : Prop where
  r : Pure.Rch E (cfg0 E.p) D
  sta : Pure.Sta E f D
  fresh : D.err = 0 → D.ins = Pure.ig E.p.ents D.mode.toNat ∧ D.c = 0 ∧ D.looked = 0 ∧ D.rule = 0 ∧ D.marked = 0
  t : TR w.heap.size w w.heap.size gs E ve vr vc rest D vst vtk W

def agM (E : Pure.Env) (D : Pure.Cfg) : Nat := (E.s.size - D.pos.toNat) + (if D.err = 0 then 1 else 0)

set_option maxRecDepth 100000 in
set_option maxHeartbeats 4000000 in
theorem again_any (f : Nat → Int) (gs : Nat) (E : Pure.Env) (ve vr vc : Value) (rest : List Value) (w : World) (gd : Pure.Good E f) (hs : E.s.size ≤ 1099511627776) (hb : Blk w gs 133 (docCells E ve vr vc rest)) (hl : Lists w E.p ve vr vc) :
    Calls Tryz.prog 105 #[.pointer (some ⟨gs, 0, none⟩)] w (RetAgain gs E ve vr vc rest w) := by
  obtain ⟨⟨ge, ce, rfl, he1, he2⟩, -, -⟩ := hl.someE gd.right
  have gl := blk_lt hb
  have el := (own_base hl.e).2
  have A0 : Hid (AgInv f gs E (.slice (some ⟨ge, 0, none⟩) E.p.ents.length ce) vr vc rest w (cfg0 E.p) (.slice none 0 0) (.slice none 0 0) (w.alloc (.cells #[.pointer (some ⟨gs, 0, none⟩), .int .i64 0, .int .i64 1, .int .i64 1, .int .i64 0, .slice none 0 0, .int .i64 0, .slice none 0 0, .int .i64 0] 218))) :=
    ⟨.refl _, sta1 gd, fun _ => ⟨rfl, rfl, rfl, rfl, rfl⟩, ⟨⟨heap_alloc_new w _, blk_alloc hb _, hl.below ((Below.refl _ _).alloc (Nat.le_refl _) _)⟩, own_nil _ _ _ _, own_nil _ _ _ _, fun g e => by cases e; exact el, (Below.refl _ _).alloc (Nat.le_refl _) _, Nat.le_refl _⟩⟩
  have GD := hide gd
  have HS := hide hs
  have ngs : gs ≠ w.heap.size := by omega
  clear gd hs hb hl
  go_enter Tryz.func105, Tryz.ntmps105
  go_wp2_with fail
  generalize w.alloc (.cells #[.pointer (some ⟨gs, 0, none⟩), .int .i64 0, .int .i64 1, .int .i64 1, .int .i64 0, .slice none 0 0, .int .i64 0, .slice none 0 0, .int .i64 0] 218) = W0 at *
  go_loopg [] (agM E (cfg0 E.p)) (fun gk wr => ∃ D vst vtk, gk = agM E D ∧ AgInv f gs E (.slice (some ⟨ge, 0, none⟩) E.p.ents.length ce) vr vc rest w D vst vtk wr)
  case atStart => exact ⟨_, _, _, rfl, A0.out⟩
  case round =>
    clear A0
    obtain ⟨D, vst, vtk, rfl, hI⟩ := hrel
    have HI := hide hI
    have c1 := blk_cell (j := 1) hI.t.m.blk rfl
    have c8 := blk_cell (j := 8) hI.t.m.blk rfl
    have s6 := blk_cell (j := 6) hI.t.m.scn rfl
    have hp0 := hI.sta.pos
    clear hI
    by_cases hp : D.pos < E.s.size
    · by_cases he : D.err = 0
      · rw [he] at c8
        go_wp2_with fail
        go_quiet (fail)
        have H1 := hide ((HI.out.t.drewN nq).alloc (.cells #[.bool false, .int .i64 0, .int .i64 0, .int .i64 0] 247))
        have KG : Hid (Blk ((wr.drewN nq).alloc (.cells #[.bool false, .int .i64 0, .int .i64 0, .int .i64 0] 247)) wr.heap.size 247 (souV false 0 0 0)) := heap_alloc_new (wr.drewN nq) _
        have s3 := blk_cell (j := 3) H1.out.m.scn rfl
        have hfr := HI.out.fresh he
        have SK := hide (fun W m => refSeek_any f w.heap.size gs E (.slice (some ⟨ge, 0, none⟩) E.p.ents.length ce) vr vc rest D vst vtk W GD.out HI.out.sta he hp HS.out m hfr)
        clear c1 c8 s6
        go_wp2_with fail
        refine (SK.out _ H1.out.m).mono ?_
        clear SK s3 hfr
        have wrl := blk_lt HI.out.t.m.blk
        have wrs := blk_lt HI.out.t.m.scn
        have ne1 : wr.heap.size ≠ w.heap.size := by omega
        have ne2 : w.heap.size ≠ wr.heap.size := by omega
        have ne3 : gs ≠ wr.heap.size := by omega
        rintro e w1 ⟨F, hrF, hF0, hFp, hg1, (⟨rfl, hlook, hm1⟩ | ⟨G, er, rfl, hlook, hm1⟩)⟩
        · have z1 := (hrF.still GD.out HI.out.sta).2 hFp hF0
          have z2 := (hrF.quiet GD.out HI.out.sta).2 hFp hF0
          have T1 := hide (H1.out.moved hm1 hg1 z1.2 z1.1 z2)
          have K1 := hide (blk_grown KG.out hg1 (fun e => ne1 (Option.some.inj e)))
          have RN : Hid (Pure.Runs E (cfg0 E.p) F) := ⟨HI.out.r.trans hrF, Pure.mic_wait hlook⟩
          clear hm1 hg1 z1 z2 hlook hrF H1 KG
          have y0 := blk_cell (j := 0) K1.out rfl
          have y1 := blk_cell (j := 1) K1.out rfl
          have y2 := blk_cell (j := 2) K1.out rfl
          have y3 := blk_cell (j := 3) K1.out rfl
          have j0 := blk_frozen K1.out 0
          have j1 := blk_frozen K1.out 1
          have j2 := blk_frozen K1.out 2
          have j3 := blk_frozen K1.out 3
          have T2 := hide (T1.out.sought K1.out rfl ne2 ne3 (by omega) (.bool true) (.int .i64 0) (.int .i64 F.rule) (.int .i64 F.marked)).1
          go_wp2
          go_ret
          exact ⟨F, vst, vtk, RN.out, rfl, T2.out⟩
        · have q := Pure.look_stop GD.out (hrF.inv GD.out HI.out.sta) hF0 hlook
          have z1 := (hrF.still GD.out HI.out.sta).2 hFp hF0
          have z2 := (hrF.quiet GD.out HI.out.sta).2 hFp hF0
          have z3 := Pure.look_keeps.2 er hlook
          have T1 := hide (H1.out.moved hm1 hg1 (z3.2.trans z1.2) (z3.1.trans z1.1) (q.2.2.2.2.2.trans z2))
          have K1 := hide (blk_grown KG.out hg1 (fun e => ne1 (Option.some.inj e)))
          have RN : Hid (Pure.Rch E (cfg0 E.p) (Pure.take E G er)) := .step (HI.out.r.trans hrF) (Pure.mic_stop hF0 (by omega) hlook)
          have SN := hide (RN.out.inv GD.out (sta1 GD.out))
          have HG := hide q.1
          have PG : Hid (G.pos = D.pos) := q.2.1.trans hFp
          have er2 := q.2.2.2.1
          clear hm1 hg1 z1 z2 z3 hlook hrF H1 KG q
          have y0 := blk_cell (j := 0) K1.out rfl
          have y1 := blk_cell (j := 1) K1.out rfl
          have y2 := blk_cell (j := 2) K1.out rfl
          have y3 := blk_cell (j := 3) K1.out rfl
          have j0 := blk_frozen K1.out 0
          have j1 := blk_frozen K1.out 1
          have j2 := blk_frozen K1.out 2
          have j3 := blk_frozen K1.out 3
          have T2 := hide (T1.out.sought K1.out rfl ne2 ne3 (by omega) (.bool false) (.int .i64 er) (.int .i64 G.rule) (.int .i64 G.marked))
          have c8 := blk_cell (j := 8) T2.out.1.m.blk rfl
          have f8 := blk_frozen T2.out.1.m.blk 8
          have DM : Hid (agM E D = (E.s.size - D.pos.toNat) + 1) := by show agM E D = _; unfold agM; rw [if_pos he]
          rcases er2 with rfl | rfl
          · by_cases hmk : G.marked = 0
            · have TE : Hid (Pure.take E G 0 = { G with err := 4 }) := by
                show _ = _
                have z : Pure.wrong E.p E.depth G = 4 := by unfold Pure.wrong; rw [if_pos hmk]
                unfold Pure.take
                rw [if_neg (by omega), z, if_pos (by omega)]
              have T3 := hide (T2.out.1.set 8 (.int .i64 4) (D := { G with err := 4 }) rfl rfl rfl rfl)
              rw [hmk] at T3 c8 f8 ⊢
              go_wp2
              go_roundg (agM E { G with err := 4 })
              case measure => have := PG.out; rw [DM.out]; unfold agM; simp only; rw [if_neg (by omega)]; omega
              case rel => exact ⟨{ G with err := 4 }, vst, vtk, rfl, by rw [← TE.out]; exact RN.out, by rw [← TE.out]; exact SN.out, fun h => absurd (show (4 : Int) = 0 from h) (by decide), T3.out.like rfl rfl rfl rfl⟩
            · have d3 : (G.marked == 0) = false := by simpa using hmk
              have TO := hide (fun W h => took_any f w.heap.size w w.heap.size gs E (.slice (some ⟨ge, 0, none⟩) E.p.ents.length ce) vr vc rest G vst vtk W GD.out HG.out (by have := HG.out.marked; omega) HG.out.err HS.out h)
              go_wp2_with fail
              refine (TO.out _ T2.out.1).mono ?_
              rintro e w3 ⟨rfl, vst', vtk', hT3⟩
              have T3 := hide hT3
              have MS : Hid (agM E (Pure.take E G 0) < agM E D) := by
                show agM E (Pure.take E G 0) < agM E D
                rw [DM.out]
                have hp' := PG.out
                unfold agM Pure.take
                rw [if_neg (by omega)]
                by_cases hw : Pure.wrong E.p E.depth G = 0
                · rw [if_neg (by omega)]
                  have ti := Pure.took_inv GD.out HG.out hw
                  have := ti.1.within
                  have := ti.1.looked
                  rw [if_pos ti.2.1]
                  have := ti.2.2.1
                  omega
                · rw [if_pos hw]
                  simp only
                  rw [if_neg hw]
                  omega
              have FR : Hid ((Pure.take E G 0).err = 0 → (Pure.take E G 0).ins = Pure.ig E.p.ents (Pure.take E G 0).mode.toNat ∧ (Pure.take E G 0).c = 0 ∧ (Pure.take E G 0).looked = 0 ∧ (Pure.take E G 0).rule = 0 ∧ (Pure.take E G 0).marked = 0) := by
                show _ → _
                unfold Pure.take
                rw [if_neg (by omega)]
                by_cases hw : Pure.wrong E.p E.depth G = 0
                · rw [if_neg (by omega)]
                  exact fun _ => ⟨rfl, rfl, rfl, rfl, rfl⟩
                · rw [if_pos hw]
                  exact fun h => absurd h hw
              clear hT3 TO T2 T1 K1 y0 y1 y2 y3 c8 f8 j0 j1 j2 j3
              go_wp2
              go_roundg (agM E (Pure.take E G 0))
              case measure => exact MS.out
              case rel => exact ⟨_, vst', vtk', rfl, RN.out, SN.out, FR.out, T3.out⟩
          · have TE : Hid (Pure.take E G 5 = { G with err := 5 }) := by
              show _ = _
              unfold Pure.take
              rw [if_pos (by omega)]
            have T3 := hide (T2.out.1.set 8 (.int .i64 5) (D := { G with err := 5 }) rfl rfl rfl rfl)
            go_wp2
            go_roundg (agM E { G with err := 5 })
            case measure => have := PG.out; rw [DM.out]; unfold agM; simp only; rw [if_neg (by omega)]; omega
            case rel => exact ⟨{ G with err := 5 }, vst, vtk, rfl, by rw [← TE.out]; exact RN.out, by rw [← TE.out]; exact SN.out, fun h => absurd (show (5 : Int) = 0 from h) (by decide), T3.out⟩
      · have d8 : (D.err == 0) = false := by simpa using he
        have RN : Hid (Pure.Runs E (cfg0 E.p) D) := ⟨HI.out.r, Pure.mic_err he⟩
        go_wp2_with fail
        go_quiet (fail)
        go_wp2
        go_ret
        exact ⟨D, vst, vtk, RN.out, rfl, HI.out.t.drewN _⟩
    · have d1 : decide (D.pos < (E.s.size : Int)) = false := decide_eq_false hp
      have RN : Hid (Pure.Runs E (cfg0 E.p) D) := ⟨HI.out.r, by unfold Pure.mic; rw [if_pos (by omega)]⟩
      go_wp2_with fail
      go_quiet (fail)
      go_wp2
      go_ret
      exact ⟨D, vst, vtk, RN.out, rfl, HI.out.t.drewN _⟩

end Go.Proofs.YtmccnmgaoppogaaGreat

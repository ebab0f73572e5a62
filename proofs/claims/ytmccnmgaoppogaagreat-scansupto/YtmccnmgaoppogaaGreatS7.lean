/-
  The walks: tokens, one behind the other. (scan)
-/
import Derived.Test.YtmccnmgaoppogaaGreatS6
import Derived.Test.YtmccnmgaoppogaaGreatSB
import Derived.Lib.ConvBytes
import Derived.Test.YtmccnmgaoppogaaGreatU1
namespace Go.Proofs.YtmccnmgaoppogaaGreat
open Go.RowKit

def tokCells (l : List Pure.Tok) : List Value := l.flatMap (fun t => [.int .i64 t.rule, .int .i64 t.pos, .int .i64 t.len, .int .i64 t.line, .int .i64 t.col])
theorem tokCells_snoc (l : List Pure.Tok) (t : Pure.Tok) : tokCells (l ++ [t]) = tokCells l ++ [.int .i64 t.rule, .int .i64 t.pos, .int .i64 t.len, .int .i64 t.line, .int .i64 t.col] := by
  simp [tokCells]

theorem Tryz.info74 : (Tryz.prog.info? 74).map (fun i => (i.zero, i.size, i.bytes)) = some (some (.agg #[.int .i64 0, .int .i64 0, .int .i64 0, .int .i64 0, .int .i64 0]), 5, 40) := by kernel_rfl

def heldOf (E : Pure.Env) (D : Pure.Cfg) : ByteArray := if D.err ≠ 0 then ⟨#[]⟩ else E.s.extract D.pos.toNat E.s.size

/-- a scanner stands there, and holds what it holds -/
structure Scn (w : World) (g : Nat) (E : Pure.Env) (D : Pure.Cfg) (f : Nat → Int) (ve vr vc vh : Value) : Prop where
  m : Mach w g E ve vr vc vh D D.err
  h : ByteRow w vh (heldOf E D)
  good : Pure.Good E f
  sta : Pure.Sta E f D

def RetAdv (f : Nat → Int) (g : Nat) (E : Pure.Env) (ve vr vc : Value) (C : Pure.Cfg) (w : World) (e : Ending) (w' : World) : Prop :=
  ∃ D T vt vh, Pure.Runs E C D ∧ D.toks = C.toks ++ T ∧ e = .returned (.tuple #[vt, .int .i64 D.err]) ∧ w'.ownsRow w.heap.size 74 5 vt T.length (tokCells T) ∧ Scn w' g E D f ve vr vc vh ∧ w.grownBy w' (some g)

structure AdvInv (f : Nat → Int) (g : Nat) (E : Pure.Env) (ve vr vc vh : Value) (C : Pure.Cfg) (w : World) (D : Pure.Cfg) (T : List Pure.Tok) (vt : Value) (wr : World) : Prop where
  r : Pure.Rch E C D
  sta : Pure.Sta E f D
  err : D.err = 0
  toks : D.toks = C.toks ++ T
  own : wr.ownsRow w.heap.size 74 5 vt T.length (tokCells T)
  m : Mach wr g E ve vr vc vh D 0
  gr : w.grownBy wr (some g)

theorem conv_bytes (w : World) (s : ByteArray) (hs : s.size ≤ 9223372036854775807) : ∃ cap w', (convert 9 152 (.string s)).run Tryz.prog w = .ok (.slice (some ⟨w.heap.size, 0, none⟩) s.size cap) w' ∧ Below w.heap.size w w' ∧ ByteRow w' (.slice (some ⟨w.heap.size, 0, none⟩) s.size cap) s := by
  refine ⟨_, _, Lib.run_convert_string_bytes w 9 152 5 s Tryz.underlying9 Tryz.underlying152 Tryz.underlying5, ⟨rfl, rfl, rfl, by rw [Lib.bytesWorld_size]; omega, fun k hk => Lib.bytesWorld_at_old w _ s k hk⟩, .inr ⟨w.heap.size, _, _, _, rfl, grownCap_ge _ _ _ _, grownCap_le_maxLen _ _ _ _ (by unfold maxLen; exact hs), Lib.bytesWorld_at_new w _ s, fun j hj => ?_⟩⟩
  have := Lib.bytesWorld_cell w 5 s j hj
  simp only [World.cell?, Lib.bytesWorld_at_new] at this
  simpa [bt] using this

theorem Pure.Rch.quiet {E : Pure.Env} {f : Nat → Int} (g : Pure.Good E f) {C D : Pure.Cfg} (r : Pure.Rch E C D) (h : Pure.Sta E f C) : C.pos ≤ D.pos ∧ (D.pos = C.pos → D.err = 0 → D.toks = C.toks) := by
  induction r with
  | refl => exact ⟨Int.le_refl _, fun _ _ => rfl⟩
  | @step G F r1 hm ih =>
    have hG := r1.inv g h
    unfold Pure.mic at hm
    split at hm
    · cases hm
    · rename_i hc
      have he : G.err = 0 := by
        by_cases e : G.err = 0
        · exact e
        · exact absurd (.inl e) hc
      cases hl : Pure.look E G with
      | wait => rw [hl] at hm; cases hm
      | go F' =>
        rw [hl] at hm
        cases hm
        have q := Pure.look_go g hG he hl
        exact ⟨by rw [q.2.2.1]; exact ih.1, fun hp _ => by rw [q.2.2.2.2]; exact ih.2 (by rw [← q.2.2.1]; exact hp) he⟩
      | stop F' e =>
        rw [hl] at hm
        cases hm
        have q := Pure.look_stop g hG he hl
        unfold Pure.take
        split
        · refine ⟨by show C.pos ≤ F'.pos; rw [q.2.1]; exact ih.1, fun _ hz => ?_⟩
          exact absurd hz (by assumption)
        · split
          · refine ⟨by show C.pos ≤ F'.pos; rw [q.2.1]; exact ih.1, fun _ hz => ?_⟩
            exact absurd hz (by assumption)
          · rename_i hne hw
            have t := Pure.took_inv g q.1 (by omega)
            have := ih.1
            exact ⟨by have := t.2.2.1; omega, fun hp _ => by have := t.2.2.1; omega⟩

theorem adv_eq {b s : ByteArray} {a : Nat} {q : Int × Int} : ∀ (n : Nat), (∀ i, i < n → bt b i = bt s (a + i)) → Pure.adv b 0 n q = Pure.adv s a n q
  | 0, _ => rfl
  | n + 1, h => by
    simp only [Pure.adv]
    rw [adv_eq n (fun i hi => h i (by omega)), Nat.zero_add, h n (by omega)]

theorem Mach.like {w : World} {g : Nat} {E : Pure.Env} {ve vr vc vh : Value} {C D : Pure.Cfg} {fault : Int} (m : Mach w g E ve vr vc vh C fault) (h : runCells ve vr vc vh E.most E.depth C E.ended fault = runCells ve vr vc vh E.most E.depth D E.ended fault) : Mach w g E ve vr vc vh D fault :=
  ⟨by rw [← h]; exact m.blk, m.l⟩

/-- what is carried through a round -/
structure Carry (g : Nat) (E : Pure.Env) (ve vr vc vh : Value) (w : World) (T : List Pure.Tok) (vt : Value) (F : Pure.Cfg) (W : World) : Prop where
  own : W.ownsRow w.heap.size 74 5 vt T.length (tokCells T)
  m : Mach W g E ve vr vc vh F 0
  gr : w.grownBy W (some g)
theorem Carry.on {g : Nat} {E : Pure.Env} {ve vr vc vh : Value} {w : World} {T : List Pure.Tok} {vt : Value} {F F' : Pure.Cfg} {W W' : World} (k : Carry g E ve vr vc vh w T vt F W) (hg : W.grownBy W' (some g)) (hm : Mach W' g E ve vr vc vh F' 0) : Carry g E ve vr vc vh w T vt F' W' :=
  ⟨own_apart k.own k.m.blk (by decide) hg, hm, Lib.grownBy_trans k.gr hg⟩
theorem Carry.below {g : Nat} {E : Pure.Env} {ve vr vc vh : Value} {w : World} {T : List Pure.Tok} {vt : Value} {F : Pure.Cfg} {W W' : World} (k : Carry g E ve vr vc vh w T vt F W) (hb : Below W.heap.size W W') : Carry g E ve vr vc vh w T vt F W' :=
  ⟨own_below k.own hb (Nat.le_refl _), k.m.below hb, grown_below k.gr hb⟩
theorem Carry.alloc {g : Nat} {E : Pure.Env} {ve vr vc vh : Value} {w : World} {T : List Pure.Tok} {vt : Value} {F : Pure.Cfg} {W : World} (k : Carry g E ve vr vc vh w T vt F W) (o : Obj) : Carry g E ve vr vc vh w T vt F (W.alloc o) :=
  k.below ((Below.refl _ _).alloc (Nat.le_refl _) o)
theorem Carry.drew {g : Nat} {E : Pure.Env} {ve vr vc vh : Value} {w : World} {T : List Pure.Tok} {vt : Value} {F : Pure.Cfg} {W : World} (k : Carry g E ve vr vc vh w T vt F W) : Carry g E ve vr vc vh w T vt F W.drew :=
  k.below ((Below.refl _ _).drew)
theorem Carry.drewN {g : Nat} {E : Pure.Env} {ve vr vc vh : Value} {w : World} {T : List Pure.Tok} {vt : Value} {F : Pure.Cfg} {W : World} (k : Carry g E ve vr vc vh w T vt F W) (n : Nat) : Carry g E ve vr vc vh w T vt F (W.drewN n) :=
  k.below (below_drewN (Below.refl _ _) n)

theorem far_blk {W W' : World} {base e size n g t : Nat} {v : Value} {xs ys : List Value} (h : W.ownsRow base e size v n xs) (hb : Blk W g t ys) (ht : t ≠ e) (hg : W.grownBy W' v.ownBlock) : Blk W' g t ys := by
  refine blk_grown hb hg ?_
  intro e1
  rcases h.2 with ⟨rfl, _⟩ | ⟨g', cap, cur, rfl, _, hgg, _⟩
  · simp [Value.ownBlock] at e1
  · simp only [Value.ownBlock, Option.some.injEq] at e1
    subst e1
    unfold Blk at hb
    rw [hgg] at hb
    simp at hb
    exact ht hb.2.symm

/-- a token more -/
theorem Carry.more {g : Nat} {E : Pure.Env} {ve vr vc vh : Value} {w : World} {T T' : List Pure.Tok} {vt vt' : Value} {F : Pure.Cfg} {W W' : World} (k : Carry g E ve vr vc vh w T vt F W) (hg : W.grownBy W' vt.ownBlock) (ho : W'.ownsRow w.heap.size 74 5 vt' T'.length (tokCells T')) : Carry g E ve vr vc vh w T' vt' F W' := by
  refine ⟨ho, ⟨far_blk k.own k.m.blk (by decide) hg, ⟨own_other k.m.l.e k.own (by decide) hg, own_other k.m.l.r k.own (by decide) hg, own_other k.m.l.c k.own (by decide) hg⟩⟩, ?_⟩
  have s1 := k.gr.size
  refine ⟨hg.1.trans k.gr.1, hg.2.trans k.gr.2, hg.3.trans k.gr.3, Nat.le_trans k.gr.size hg.size, fun j hj hne => ?_⟩
  rw [hg.block j (by omega) ?_]
  · exact k.gr.block j hj hne
  · intro e
    have := (World.ownsRow.lt k.own j e.symm).1
    omega

/-- the search begins anew, behind the token -/
theorem Carry.again {g : Nat} {E : Pure.Env} {ve vr vc vh : Value} {w : World} {T : List Pure.Tok} {vt : Value} {F : Pure.Cfg} {W : World} (k : Carry g E ve vr vc vh w T vt F W) (x : Int) :
    Carry g E ve vr vc vh w T vt { F with ins := x, c := 0, looked := 0, rule := 0, marked := 0 } (((((W.setCell ⟨g, 19, none⟩ (.int .i64 x)).setCell ⟨g, 20, none⟩ (.int .i64 0)).setCell ⟨g, 21, none⟩ (.int .i64 0)).setCell ⟨g, 22, none⟩ (.int .i64 0)).setCell ⟨g, 23, none⟩ (.int .i64 0)) := by
  have k1 := k.on (Lib.grownBy_setCell W g 19 (.int .i64 x)) (k.m.set 19 (.int .i64 x) E rfl (D := { F with ins := x }) rfl)
  have k2 := k1.on (Lib.grownBy_setCell _ g 20 (.int .i64 0)) (k1.m.set 20 (.int .i64 0) E rfl (D := { F with ins := x, c := 0 }) rfl)
  have k3 := k2.on (Lib.grownBy_setCell _ g 21 (.int .i64 0)) (k2.m.set 21 (.int .i64 0) E rfl (D := { F with ins := x, c := 0, looked := 0 }) rfl)
  have k4 := k3.on (Lib.grownBy_setCell _ g 22 (.int .i64 0)) (k3.m.set 22 (.int .i64 0) E rfl (D := { F with ins := x, c := 0, looked := 0, rule := 0 }) rfl)
  exact k4.on (Lib.grownBy_setCell _ g 23 (.int .i64 0)) (k4.m.set 23 (.int .i64 0) E rfl rfl)

/-- it waits, or there is nothing more: what is left is held -/
theorem adv_held {f : Nat → Int} {g : Nat} {E : Pure.Env} {ve vr vc vh : Value} {C F : Pure.Cfg} {w W W' : World} {T : List Pure.Tok} {vt : Value} {rest : ByteArray} {b cap : Nat} (gd : Pure.Good E f) (k : Carry g E ve vr vc vh w T vt F W) (hB : Below W.heap.size W W') (hby : ByteRow W' (.slice (some ⟨b, 0, none⟩) rest.size cap) rest)
    (hr : Pure.Runs E C F) (hst : Pure.Sta E f F) (he : F.err = 0) (ht : F.toks = C.toks ++ T) (hrest : E.s.extract F.pos.toNat E.s.size = rest) :
    RetAdv f g E ve vr vc C w (.returned (.tuple #[vt, .int .i64 0])) (W'.setCell ⟨g, 24, none⟩ (.slice (some ⟨b, 0, none⟩) rest.size cap)) := by
  have k' := k.below hB
  have hg := Lib.grownBy_setCell W' g 24 (.slice (some ⟨b, 0, none⟩) rest.size cap)
  refine ⟨F, T, vt, .slice (some ⟨b, 0, none⟩) rest.size cap, hr, ht, by rw [he], own_apart k'.own k'.m.blk (by decide) hg, ⟨?_, ?_, gd, hst⟩, Lib.grownBy_trans k'.gr hg⟩
  · rw [he]; exact k'.m.set 24 _ E rfl rfl
  · have e : heldOf E F = rest := by unfold heldOf; rw [if_neg (by omega)]; exact hrest
    rw [e]
    exact hby.on k'.m.blk (by decide) hg

/-- an error: nothing is held any more -/
theorem adv_fault {f : Nat → Int} {g : Nat} {E : Pure.Env} {ve vr vc vh : Value} {C D F : Pure.Cfg} {w W : World} {T : List Pure.Tok} {vt : Value} (gd : Pure.Good E f) (k : Carry g E ve vr vc vh w T vt F W) (e : Int) (he : e ≠ 0) (hr : Pure.Rch E C D) (hm : Pure.mic E D = some { F with err := e }) (hst : Pure.Sta E f { F with err := e }) (ht : F.toks = C.toks ++ T) :
    RetAdv f g E ve vr vc C w (.returned (.tuple #[vt, .int .i64 e])) ((W.setCell ⟨g, 26, none⟩ (.int .i64 e)).setCell ⟨g, 24, none⟩ (.slice none 0 0)) := by
  have hg1 := Lib.grownBy_setCell W g 26 (.int .i64 e)
  have m1 := k.m.set 26 (.int .i64 e) E rfl (D := { F with err := e }) (fault' := e) rfl
  have hg2 := Lib.grownBy_setCell (W.setCell ⟨g, 26, none⟩ (.int .i64 e)) g 24 (.slice none 0 0)
  refine ⟨{ F with err := e }, T, vt, .slice none 0 0, ⟨.step hr hm, Pure.mic_err he⟩, ht, rfl, own_apart (own_apart k.own k.m.blk (by decide) hg1) m1.blk (by decide) hg2, ⟨m1.set 24 _ E rfl rfl, ?_, gd, hst⟩, Lib.grownBy_trans (Lib.grownBy_trans k.gr hg1) hg2⟩
  have e' : heldOf E { F with err := e } = ⟨#[]⟩ := by unfold heldOf; exact if_pos he
  rw [e']
  exact .inl ⟨rfl, rfl⟩

set_option maxRecDepth 100000 in
set_option maxHeartbeats 4000000 in
theorem advance_any (f : Nat → Int) (g : Nat) (E : Pure.Env) (ve vr vc vh : Value) (C : Pure.Cfg) (w : World) (gd : Pure.Good E f) (h : Pure.Sta E f C) (he : C.err = 0) (hs : E.s.size ≤ 1099511627776) (m : Mach w g E ve vr vc vh C 0) :
    Calls Tryz.prog 104 #[.pointer (some ⟨g, 0, none⟩), .string (E.s.extract C.pos.toNat E.s.size)] w (RetAdv f g E ve vr vc C w) := by
  obtain ⟨⟨ge, ce, rfl, he1, he2⟩, ⟨gr, cr, rfl, hr1, hr2⟩, -⟩ := m.l.someE gd.right
  obtain ⟨i0, hi, hz0, hz1, hz2⟩ := info_parts Tryz.info74
  have GD := hide gd
  have H0 : Hid (AdvInv f g E _ _ vc vh C w C [] (.slice (some ⟨w.heap.size, 0, none⟩) 0 0) (w.alloc (.cells #[] 74))) := ⟨.refl _, h, he, by simp, World.ownsRow_made w #[] 0 (Nat.le_refl _) (Nat.zero_le _) rfl, m.alloc _, grown_alloc ⟨rfl, rfl, rfl, Nat.le_refl _, fun _ _ _ => rfl⟩ _⟩
  have glt := blk_lt m.blk
  have HS := hide hs
  clear h he m gd hs
  go_enter Tryz.func104, Tryz.ntmps104
  go_wp2_with fail
  go_loopg [1, 6] (E.s.size - C.pos.toNat) (fun gk rs tv wr => ∃ (D : Pure.Cfg) (T : List Pure.Tok) (vt : Value), rs = .string (E.s.extract D.pos.toNat E.s.size) ∧ vt = tv ∧ gk = E.s.size - D.pos.toNat ∧ AdvInv f g E (.slice (some ⟨ge, 0, none⟩) E.p.ents.length ce) (.slice (some ⟨gr, 0, none⟩) E.p.rules.length cr) vc vh C w D T vt wr)
  case atStart => exact ⟨C, [], _, rfl, rfl, rfl, H0.out⟩
  case round =>
    clear H0
    obtain ⟨D, T, vt, rfl, rfl, rfl, hI⟩ := hrel
    have HI := hide hI
    have hp0 := hI.sta.pos
    have hwi := hI.sta.within
    have hlk := hI.sta.looked
    have hpd : D.pos ≤ E.s.size := by omega
    have hrs : (E.s.extract D.pos.toNat E.s.size).size = E.s.size - D.pos.toNat := by simp
    have hge := hI.gr.size
    have K0 : Hid (Carry g E (.slice (some ⟨ge, 0, none⟩) E.p.ents.length ce) (.slice (some ⟨gr, 0, none⟩) E.p.rules.length cr) vc vh w T vt D wr) := ⟨hI.own, hI.m, hI.gr⟩
    clear hI
    by_cases hlt : D.pos < E.s.size
    · have d0 : (0 : Int) < ((E.s.extract D.pos.toNat E.s.size).size : Int) := by omega
      have SK := hide (fun W => seek_any f g E (.slice (some ⟨ge, 0, none⟩) E.p.ents.length ce) (.slice (some ⟨gr, 0, none⟩) E.p.rules.length cr) vc vh D W GD.out HI.out.sta HI.out.err hlt HS.out)
      have HRS : Hid ((E.s.extract D.pos.toNat E.s.size).size = E.s.size - D.pos.toNat) := hrs
      have BT : Hid (∀ n, D.pos.toNat + n < E.s.size → bt (E.s.extract D.pos.toNat E.s.size) n = bt E.s (D.pos.toNat + n)) := fun n hn => bt_extract E.s D.pos.toNat E.s.size n (Nat.le_refl _) hn
      have hRS : Hid (E.s.extract D.pos.toNat E.s.size = E.s.extract D.pos.toNat E.s.size) := rfl
      clear hrs hRS
      generalize hRE : E.s.extract D.pos.toNat E.s.size = rest at *
      have RE := hide hRE
      clear hRE
      go_wp2_with fail
      refine (SK.out _ K0.out.m).mono ?_
      clear SK
      rintro e w1 ⟨F, hr1, hF0, hFp, hg1, (⟨rfl, hlook, hm1⟩ | ⟨F', er, rfl, hlook, hm1⟩)⟩
      · have K1 := hide (K0.out.on hg1 hm1)
        have hst := hr1.inv GD.out HI.out.sta
        have FIN := hide (And.intro (show Pure.Runs E C F from ⟨HI.out.r.trans hr1, by unfold Pure.mic; rw [hlook]; split <;> rfl⟩) (And.intro hst (And.intro hF0 (And.intro (((hr1.quiet GD.out HI.out.sta).2 hFp hF0).trans HI.out.toks) (show E.s.extract F.pos.toNat E.s.size = rest by rw [hFp]; exact RE.out)))))
        obtain ⟨cap, w2, hcv, hB2, hby⟩ := conv_bytes w1 rest (by have := HRS.out; have := HS.out; omega)
        have m2 := K1.out.m.below hB2
        have c24 := m2.cell (j := 24) rfl
        have f24 := m2.frozen 24
        have HB := hide (And.intro hB2 hby)
        clear hr1 hF0 hFp hg1 hlook hm1 hst hB2 hby m2 K0 BT
        go_wp2
        go_ret2
        exact adv_held GD.out K1.out HB.out.1 HB.out.2 FIN.out.1 FIN.out.2.1 FIN.out.2.2.1 FIN.out.2.2.2.1 FIN.out.2.2.2.2
      · have hst0 := hr1.inv GD.out HI.out.sta
        have q := Pure.look_stop GD.out hst0 hF0 hlook
        have K1 := hide (K0.out.on hg1 hm1)
        have hmic : Pure.mic E F = some (Pure.take E F' er) := by unfold Pure.mic; rw [if_neg (by omega), hlook]
        have htk : F'.toks = C.toks ++ T := q.2.2.2.2.2.trans (((hr1.quiet GD.out HI.out.sta).2 hFp hF0).trans HI.out.toks)
        have HQ := hide (And.intro q (And.intro (HI.out.r.trans hr1) (And.intro hmic htk)))
        have FP : Hid (F'.pos = D.pos) := q.2.1.trans hFp
        have c24 := K1.out.m.cell (j := 24) rfl
        have f24 := K1.out.m.frozen 24
        have c26 := K1.out.m.cell (j := 26) rfl
        have f26 := K1.out.m.frozen 26
        rcases q.2.2.2.1 with h0 | h5
        · subst h0
          have hru := q.1.rule
          have JU := hide (fun W m => judge_any g E (.slice (some ⟨ge, 0, none⟩) E.p.ents.length ce) (.slice (some ⟨gr, 0, none⟩) E.p.rules.length cr) vc vh F' 0 W m GD.out.right hru)
          have HW := hide (Pure.wrong_bd E.p E.depth F')
          clear q hr1 hF0 hlook hm1 hst0 hmic htk K0 hg1 hFp
          go_wp2_with fail
          refine (JU.out _ K1.out.m).mono ?_
          clear JU
          rintro e w2 ⟨rfl, nd, rfl⟩
          have K2 := hide (K1.out.drewN nd)
          clear K1
          by_cases hw : Pure.wrong E.p E.depth F' = 0
          · rw [hw]
            have hmk := HQ.out.1.1.marked
            have hlk2 := HQ.out.1.1.looked
            have hwi2 := HQ.out.1.1.within
            have hmp : 1 ≤ F'.marked := by
              by_cases e0 : F'.marked = 0
              · unfold Pure.wrong at hw; rw [if_pos e0] at hw; cases hw
              · omega
            obtain ⟨n, hn⟩ := Int.eq_ofNat_of_zero_le hmk.1
            obtain ⟨k, hk⟩ := Int.eq_ofNat_of_zero_le hru.1
            have hkr : k < E.p.rules.length := by omega
            have hki : (k : Int) < (E.p.rules.length : Int) := by omega
            have hnr : n ≤ rest.size := by have := HRS.out; have := FP.out; omega
            have hni : (n : Int) ≤ (rest.size : Int) := by omega
            have hn1 : 1 ≤ n := by omega
            have TO := hide (fun W m => token_any g E (.slice (some ⟨ge, 0, none⟩) E.p.ents.length ce) (.slice (some ⟨gr, 0, none⟩) E.p.rules.length cr) vc vh F' 0 W m)
            rw [hn, hk] at TO
            have HN := hide (And.intro hn (And.intro hk hw))
            have w1' : Hid ((Pure.rg E.p.rules k).act = 2 → F'.dep < E.depth) := fun ha => by
              have hw1 := hw
              unfold Pure.wrong at hw1
              rw [if_neg (by omega), hk, Int.toNat_natCast] at hw1
              by_cases q2 : E.depth ≤ F'.dep
              · rw [if_pos ⟨ha, q2⟩] at hw1; cases hw1
              · omega
            have w2' : Hid ((Pure.rg E.p.rules k).act = 3 → 0 < F'.dep) := fun ha => by
              have hw1 := hw
              unfold Pure.wrong at hw1
              rw [if_neg (by omega), hk, Int.toNat_natCast, if_neg (by omega)] at hw1
              have := HQ.out.1.1.dep
              by_cases q2 : F'.dep = 0
              · rw [if_pos ⟨ha, q2⟩] at hw1; cases hw1
              · omega
            clear hw hmk hlk2 hwi2 hmp hn hk hru HW c24 f24 c26 f26
            go_wp2_with fail
            refine (TO.out _ K2.out.m).mono ?_
            clear TO
            rintro e w3 ⟨rfl, hB3⟩
            have K3 := hide (K2.out.below hB3)
            clear K2 hB3
            have hvt : Hid (∀ j, vt.ownBlock = some j → j < w3.heap.size) := fun j hj => (World.ownsRow.lt K3.out.own j hj).2
            have K4 := hide (K3.out.alloc (.cells #[.int .i64 k, .int .i64 F'.pos, .int .i64 n, .int .i64 F'.line, .int .i64 F'.col] 74))
            have KT : Hid (Blk (w3.alloc (.cells #[.int .i64 k, .int .i64 F'.pos, .int .i64 n, .int .i64 F'.line, .int .i64 F'.col] 74)) w3.heap.size 74 [.int .i64 k, .int .i64 F'.pos, .int .i64 n, .int .i64 F'.line, .int .i64 F'.col]) := heap_alloc_new _ _
            clear K3
            go_wp2_with fail
            generalize w3.alloc (.cells #[.int .i64 k, .int .i64 F'.pos, .int .i64 n, .int .i64 F'.line, .int .i64 F'.col] 74) = W4 at *
            generalize w3.heap.size = gt at *
            have c1 := K4.out.m.cell (j := 1) rfl
            have t0 := blk_cell (j := 0) KT.out rfl
            have q := own_rule K4.out.m.l.r hkr
            have q0 := q.1
            have q1 := q.2.1
            have q2 := q.2.2
            have glt4 := blk_lt K4.out.m.blk
            have tlt4 := blk_lt KT.out
            have rlt4 := (own_base K4.out.m.l.r).2
            have n1 : W4.heap.size ≠ g := by omega
            have n2 : W4.heap.size ≠ gt := by omega
            have n3 : W4.heap.size ≠ gr := by omega
            have n1' : g ≠ W4.heap.size := by omega
            have n2' : gt ≠ W4.heap.size := by omega
            have n3' : gr ≠ W4.heap.size := by omega
            have ok := GD.out.right.2.1.2 k hkr
            have ogt : Hid (gt ≠ g) := fun e => by
              have b1 := KT.out
              have b2 := K4.out.m.blk
              rw [e] at b1
              unfold Blk at b1 b2
              rw [b1] at b2
              simp at b2
            clear q
            have RX : Hid (Pure.rg E.p.rules k = Pure.rg E.p.rules k) := rfl
            clear RX
            generalize hR : Pure.rg E.p.rules k = r at *
            have HR := hide hR
            clear hR
            go_region_held3 (fun w' => w'.cell? ⟨g, 1, none⟩ = some (.slice (some ⟨gr, 0, none⟩) E.p.rules.length cr) ∧ w'.cell? ⟨gt, 0, none⟩ = some (.int .i64 k) ∧ w'.cell? ⟨gr, k * 3, none⟩ = some (.int .i64 r.emit) ∧ w'.cell? ⟨gr, k * 3 + 1, none⟩ = some (.int .i64 r.act) ∧ w'.cell? ⟨gr, k * 3 + 2, none⟩ = some (.int .i64 r.mode)) (go_keep) (fail)
            rename_i hh
            clear hh c1 t0 q0 q1 q2 n1 n2 n3 n1' n2' n3' rlt4 hr1 hr2 he1 he2
            have K5 := hide (K4.out.alloc (.cells #[.int .i64 r.emit, .int .i64 r.act, .int .i64 r.mode] 59)).drew
            have KR : Hid (Blk (W4.alloc (.cells #[.int .i64 r.emit, .int .i64 r.act, .int .i64 r.mode] 59)).drew W4.heap.size 59 [.int .i64 r.emit, .int .i64 r.act, .int .i64 r.mode]) := heap_alloc_new _ _
            have KT5 : Hid (Blk (W4.alloc (.cells #[.int .i64 r.emit, .int .i64 r.act, .int .i64 r.mode] 59)).drew gt 74 [.int .i64 k, .int .i64 F'.pos, .int .i64 n, .int .i64 F'.line, .int .i64 F'.col]) := blk_alloc KT.out _
            have ogr : Hid (W4.heap.size ≠ g) := by show _ ≠ _; omega
            clear K4 KT glt4 tlt4
            generalize (W4.alloc (.cells #[.int .i64 r.emit, .int .i64 r.act, .int .i64 r.mode] 59)).drew = W5 at *
            generalize W4.heap.size = gl at *
            have e0 := blk_cell (j := 0) KR.out rfl
            rcases ok.1 with hem | hem
            · rw [hem] at e0
              have HEM := hide hem
              clear hem
              have t2 := blk_cell (j := 2) KT5.out rfl
              have PS := hide (fun W m => pass_any g E (.slice (some ⟨ge, 0, none⟩) E.p.ents.length ce) (.slice (some ⟨gr, 0, none⟩) E.p.rules.length cr) vc vh F' 0 (rest.extract 0 n) W m (by have := FP.out; have := HS.out; omega) (by have := HQ.out.1.1.line; have := FP.out; have := HS.out; omega) (by have := HQ.out.1.1.col; have := FP.out; have := HS.out; omega) (by have := HS.out; have := HRS.out; simp; omega))
              go_wp2_with fail
              refine (PS.out _ K5.out.m).mono ?_
              clear PS t2
              rintro e w6 ⟨rfl, hm6, hg6⟩
              have K6 := hide (K5.out.on hg6 hm6)
              have KR6 := hide (blk_grown KR.out hg6 (fun e => ogr.out (by cases e; rfl)))
              have KT6 := hide (blk_grown KT5.out hg6 (fun e => ogt.out (by cases e; rfl)))
              clear K5 KR KT5 hm6 hg6
              have e0 := blk_cell (j := 0) KR6.out rfl
              have e1 := blk_cell (j := 1) KR6.out rfl
              have e2 := blk_cell (j := 2) KR6.out rfl
              have AC := hide (fun W m => act_any g E (.slice (some ⟨ge, 0, none⟩) E.p.ents.length ce) (.slice (some ⟨gr, 0, none⟩) E.p.rules.length cr) vc vh (passed (rest.extract 0 n) (rest.extract 0 n).size F') 0 r W m HQ.out.1.1.stk.1 (by have := HQ.out.1.1.dep; have := GD.out.depth; show 0 ≤ F'.dep ∧ F'.dep ≤ 8; omega) (fun ha => by have := w1'.out ha; have := GD.out.depth; show F'.dep < 8; omega) (fun ha => w2'.out ha))
              go_wp2_with fail
              refine (AC.out _ K6.out.m).mono ?_
              clear AC e0 e1 e2
              rintro e w7 ⟨rfl, hm7, hg7⟩
              have K7 := hide (K6.out.on hg7 hm7)
              have KT7 := hide (blk_grown KT6.out hg7 (fun e => ogt.out (by cases e; rfl)))
              clear K6 KR6 KT6 hm7 hg7
              have md : 0 ≤ Pure.newMode r F' ∧ Pure.newMode r F' < E.p.ents.length := by
                have z := (Pure.took_inv GD.out HQ.out.1.1 HN.out.2.2).1.mode
                have e5 : (Pure.took E.p E.s F').mode = Pure.newMode (Pure.rg E.p.rules F'.rule.toNat) F' := rfl
                rw [e5, HN.out.2.1, Int.toNat_natCast, HR.out] at z
                exact z
              obtain ⟨mm, hmm⟩ := Int.eq_ofNat_of_zero_le md.1
              have MM := hide hmm
              have c0 := K7.out.m.cell (j := 0) rfl
              have c8 := K7.out.m.cell (j := 8) (u := .int .i64 mm) (by rw [← hmm]; rfl)
              have c19 := K7.out.m.cell (j := 19) rfl
              have c20 := K7.out.m.cell (j := 20) rfl
              have c21 := K7.out.m.cell (j := 21) rfl
              have c22 := K7.out.m.cell (j := 22) rfl
              have c23 := K7.out.m.cell (j := 23) rfl
              have f19 := K7.out.m.frozen 19
              have f20 := K7.out.m.frozen 20
              have f21 := K7.out.m.frozen 21
              have f22 := K7.out.m.frozen 22
              have f23 := K7.out.m.frozen 23
              have hml : mm < E.p.ents.length := by omega
              have hmi : (mm : Int) < (E.p.ents.length : Int) := by omega
              have qe := own_int K7.out.m.l.e hml
              have far := own_far K7.out.m.l.e K7.out.m.blk (by decide)
              have far' : g ≠ ge := fun e => far e.symm
              have K8 := hide (K7.out.again (Pure.ig E.p.ents mm))
              have T1 : Hid (_ ∧ _ ∧ _) := And.intro (K8.out.drew.m.cell (j := 0) rfl) (And.intro (K8.out.drew.m.cell (j := 8) (u := .int .i64 mm) (by rw [← hmm]; rfl)) (own_int K8.out.drew.m.l.e hml))
              have t2 := blk_cell (j := 2) KT7.out rfl
              have ogt' := ogt.out
              have ogt'' : g ≠ gt := fun e => ogt' e.symm
              have hb : (rest.extract 0 n).size = n := by simp; omega
              have RS2 : Hid (rest.extract n rest.size = E.s.extract (F'.pos + n).toNat E.s.size) := by
                show _ = _
                have h1 := HRS.out
                have h2 := FP.out
                rw [h1, ← RE.out]
                apply ByteArray.ext
                simp
                congr 1
                all_goals omega
              have TOOK : Hid (runCells (.slice (some ⟨ge, 0, none⟩) E.p.ents.length ce) (.slice (some ⟨gr, 0, none⟩) E.p.rules.length cr) vc vh E.most E.depth { acted r (passed (rest.extract 0 n) (rest.extract 0 n).size F') with ins := Pure.ig E.p.ents mm, c := 0, looked := 0, rule := 0, marked := 0 } E.ended 0 = runCells (.slice (some ⟨ge, 0, none⟩) E.p.ents.length ce) (.slice (some ⟨gr, 0, none⟩) E.p.rules.length cr) vc vh E.most E.depth (Pure.took E.p E.s F') E.ended 0) := by
                show _ = _
                have ha : Pure.adv (rest.extract 0 n) 0 n (F'.line, F'.col) = Pure.adv E.s F'.pos.toNat n (F'.line, F'.col) := adv_eq n (fun i hi => by
                  have h1 := HRS.out
                  have h2 := FP.out
                  rw [bt_extract rest 0 n i (by omega) (by omega), Nat.zero_add, BT.out i (by omega), h2])
                unfold Pure.took passed acted
                simp only
                rw [hb, ha, HN.out.1, HN.out.2.1, Int.toNat_natCast, Int.toNat_natCast, HR.out]
                have e6 : Pure.newMode r F' = mm := hmm
                have e7 : (Pure.newMode r F').toNat = mm := by rw [e6]; rfl
                unfold runCells
                simp only [e7]
                rfl
              have KT8 := hide (blk_grown KT7.out (grown_drew (grown_set (grown_set (grown_set (grown_set (grown_set (World.grownBy.refl w7 (some g)) 19 (.int .i64 (Pure.ig E.p.ents mm))) 20 (.int .i64 0)) 21 (.int .i64 0)) 22 (.int .i64 0)) 23 (.int .i64 0))) (fun e => ogt.out (by cases e; rfl)))
              have K9 := hide K8.out.drew
              clear md hmm far hb K8
              go_wp2_with fail
              generalize hEN : Pure.ig E.p.ents mm = en at *
              go_region_held3 (fun w' => w'.cell? ⟨g, 0, none⟩ = some (.slice (some ⟨ge, 0, none⟩) E.p.ents.length ce) ∧ w'.cell? ⟨g, 8, none⟩ = some (.int .i64 mm) ∧ w'.cell? ⟨ge, mm, none⟩ = some (.int .i64 en)) (first | (go_keep; done) | exact T1.out) (fail)
              rename_i hh
              clear hh T1 c0 c8 c19 c20 c21 c22 c23 f19 f20 f21 f22 f23 qe far' t2 ogt' ogt'' K7 KT7 hEN
              generalize (((((w7.setCell ⟨g, 19, none⟩ (.int .i64 en)).setCell ⟨g, 20, none⟩ (.int .i64 0)).setCell ⟨g, 21, none⟩ (.int .i64 0)).setCell ⟨g, 22, none⟩ (.int .i64 0)).setCell ⟨g, 23, none⟩ (.int .i64 0)).drew = W8 at *
              have t2 := blk_cell (j := 2) KT8.out rfl
              go_wp2
              go_roundg (E.s.size - (F'.pos + n).toNat)
              case measure => have := FP.out; omega
              case rel =>
                have TK : Pure.take E F' 0 = Pure.took E.p E.s F' := by unfold Pure.take; rw [if_neg (by omega), if_neg (by have := HN.out.2.2; omega)]
                have ep : (Pure.took E.p E.s F').pos = F'.pos + n := by show F'.pos + F'.marked = _; rw [HN.out.1]
                have ti := Pure.took_inv GD.out HQ.out.1.1 HN.out.2.2
                refine ⟨Pure.took E.p E.s F', T, _, by rw [ep]; exact congrArg Value.string RS2.out, rfl, by rw [ep], .step HQ.out.2.1 (by rw [HQ.out.2.2.1, TK]), ti.1, ti.2.1, ?_, K9.out.own, K9.out.m.like TOOK.out, K9.out.gr⟩
                show (if (Pure.rg E.p.rules F'.rule.toNat).emit = 1 then F'.toks ++ [⟨F'.rule, F'.pos, F'.marked, F'.line, F'.col⟩] else F'.toks) = _
                rw [HN.out.2.1, Int.toNat_natCast, HR.out, HEM.out, HN.out.1, HQ.out.2.2.2]
                simp
            · rw [hem] at e0
              have HEM := hide hem
              clear hem
              have hTl : (T.length : Int) ≤ E.s.size := by
                have h1 := HI.out.sta.toks
                have h2 := HI.out.toks
                rw [h2, List.length_append] at h1
                omega
              have hTl2 : T.length ≤ 1099511627776 := by have := HS.out; omega
              have u0 := blk_cell (j := 0) KT5.out rfl
              have u1 := blk_cell (j := 1) KT5.out rfl
              have u2 := blk_cell (j := 2) KT5.out rfl
              have u3 := blk_cell (j := 3) KT5.out rfl
              have u4' := blk_cell (j := 4) KT5.out rfl
              have tlt := blk_lt KT5.out
              go_wp2_with (at_builtin; refine wpList_append_own _ rfl (.tmp 56) (.tmp 58) 72 rfl w.heap.size 74 i0 (.agg #[.int .i64 0, .int .i64 0, .int .i64 0, .int .i64 0, .int .i64 0]) 5 40 Tryz.underlying72 hi hz0 hz1 hz2 rfl (by decide) vt T.length (tokCells T) rfl (World.ownsRow.alloc K5.out.own _) ⟨W5.heap.size, 0, none⟩ 1 1 [.int .i64 k, .int .i64 F'.pos, .int .i64 n, .int .i64 F'.line, .int .i64 F'.col] rfl rfl (cell_list3 rfl) (by intro u hu; simp at hu; rcases hu with rfl | rfl | rfl | rfl | rfl <;> rfl) (by unfold maxLen; omega) (by omega) (by have := K5.out.gr.size; simp; omega) ?_; intro v2 wa hown2 hgrow2 _; have t2 := blk_cell (j := 2) (blk_grown (blk_alloc KT5.out _) hgrow2 (fun e => by have := hvt.out _ e.symm; omega)) rfl)
              have Ka : Hid (Carry g E (.slice (some ⟨ge, 0, none⟩) E.p.ents.length ce) (.slice (some ⟨gr, 0, none⟩) E.p.rules.length cr) vc vh w (T ++ [⟨k, F'.pos, n, F'.line, F'.col⟩]) v2 F' wa) := (K5.out.alloc _).more hgrow2 (by rw [tokCells_snoc, List.length_append, List.length_singleton]; exact hown2)
              have KRa := hide (far_blk (K5.out.alloc _).own (blk_alloc KR.out _) (by decide) hgrow2)
              have KTa := hide (blk_grown (blk_alloc KT5.out _) hgrow2 (fun e => by have := hvt.out _ e.symm; omega))
              clear hown2 hgrow2 u0 u1 u2 u3 u4' K5 KR KT5
              have PS := hide (fun W m => pass_any g E (.slice (some ⟨ge, 0, none⟩) E.p.ents.length ce) (.slice (some ⟨gr, 0, none⟩) E.p.rules.length cr) vc vh F' 0 (rest.extract 0 n) W m (by have := FP.out; have := HS.out; omega) (by have := HQ.out.1.1.line; have := FP.out; have := HS.out; omega) (by have := HQ.out.1.1.col; have := FP.out; have := HS.out; omega) (by have := HS.out; have := HRS.out; simp; omega))
              refine (PS.out _ Ka.out.m).mono ?_
              clear PS t2
              rintro e w6 ⟨rfl, hm6, hg6⟩
              have K6 := hide (Ka.out.on hg6 hm6)
              have KR6 := hide (blk_grown KRa.out hg6 (fun e => ogr.out (by cases e; rfl)))
              have KT6 := hide (blk_grown KTa.out hg6 (fun e => ogt.out (by cases e; rfl)))
              clear Ka KRa KTa hm6 hg6
              have e0 := blk_cell (j := 0) KR6.out rfl
              have e1 := blk_cell (j := 1) KR6.out rfl
              have e2 := blk_cell (j := 2) KR6.out rfl
              have AC := hide (fun W m => act_any g E (.slice (some ⟨ge, 0, none⟩) E.p.ents.length ce) (.slice (some ⟨gr, 0, none⟩) E.p.rules.length cr) vc vh (passed (rest.extract 0 n) (rest.extract 0 n).size F') 0 r W m HQ.out.1.1.stk.1 (by have := HQ.out.1.1.dep; have := GD.out.depth; show 0 ≤ F'.dep ∧ F'.dep ≤ 8; omega) (fun ha => by have := w1'.out ha; have := GD.out.depth; show F'.dep < 8; omega) (fun ha => w2'.out ha))
              go_wp2_with fail
              refine (AC.out _ K6.out.m).mono ?_
              clear AC e0 e1 e2
              rintro e w7 ⟨rfl, hm7, hg7⟩
              have K7 := hide (K6.out.on hg7 hm7)
              have KT7 := hide (blk_grown KT6.out hg7 (fun e => ogt.out (by cases e; rfl)))
              clear K6 KR6 KT6 hm7 hg7
              have md : 0 ≤ Pure.newMode r F' ∧ Pure.newMode r F' < E.p.ents.length := by
                have z := (Pure.took_inv GD.out HQ.out.1.1 HN.out.2.2).1.mode
                have e5 : (Pure.took E.p E.s F').mode = Pure.newMode (Pure.rg E.p.rules F'.rule.toNat) F' := rfl
                rw [e5, HN.out.2.1, Int.toNat_natCast, HR.out] at z
                exact z
              obtain ⟨mm, hmm⟩ := Int.eq_ofNat_of_zero_le md.1
              have MM := hide hmm
              have c0 := K7.out.m.cell (j := 0) rfl
              have c8 := K7.out.m.cell (j := 8) (u := .int .i64 mm) (by rw [← hmm]; rfl)
              have c19 := K7.out.m.cell (j := 19) rfl
              have c20 := K7.out.m.cell (j := 20) rfl
              have c21 := K7.out.m.cell (j := 21) rfl
              have c22 := K7.out.m.cell (j := 22) rfl
              have c23 := K7.out.m.cell (j := 23) rfl
              have f19 := K7.out.m.frozen 19
              have f20 := K7.out.m.frozen 20
              have f21 := K7.out.m.frozen 21
              have f22 := K7.out.m.frozen 22
              have f23 := K7.out.m.frozen 23
              have hml : mm < E.p.ents.length := by omega
              have hmi : (mm : Int) < (E.p.ents.length : Int) := by omega
              have qe := own_int K7.out.m.l.e hml
              have far := own_far K7.out.m.l.e K7.out.m.blk (by decide)
              have far' : g ≠ ge := fun e => far e.symm
              have K8 := hide (K7.out.again (Pure.ig E.p.ents mm))
              have T1 : Hid (_ ∧ _ ∧ _) := And.intro (K8.out.drew.m.cell (j := 0) rfl) (And.intro (K8.out.drew.m.cell (j := 8) (u := .int .i64 mm) (by rw [← hmm]; rfl)) (own_int K8.out.drew.m.l.e hml))
              have t2 := blk_cell (j := 2) KT7.out rfl
              have ogt' := ogt.out
              have ogt'' : g ≠ gt := fun e => ogt' e.symm
              have hb : (rest.extract 0 n).size = n := by simp; omega
              have RS2 : Hid (rest.extract n rest.size = E.s.extract (F'.pos + n).toNat E.s.size) := by
                show _ = _
                have h1 := HRS.out
                have h2 := FP.out
                rw [h1, ← RE.out]
                apply ByteArray.ext
                simp
                congr 1
                all_goals omega
              have TOOK : Hid (runCells (.slice (some ⟨ge, 0, none⟩) E.p.ents.length ce) (.slice (some ⟨gr, 0, none⟩) E.p.rules.length cr) vc vh E.most E.depth { acted r (passed (rest.extract 0 n) (rest.extract 0 n).size F') with ins := Pure.ig E.p.ents mm, c := 0, looked := 0, rule := 0, marked := 0 } E.ended 0 = runCells (.slice (some ⟨ge, 0, none⟩) E.p.ents.length ce) (.slice (some ⟨gr, 0, none⟩) E.p.rules.length cr) vc vh E.most E.depth (Pure.took E.p E.s F') E.ended 0) := by
                show _ = _
                have ha : Pure.adv (rest.extract 0 n) 0 n (F'.line, F'.col) = Pure.adv E.s F'.pos.toNat n (F'.line, F'.col) := adv_eq n (fun i hi => by
                  have h1 := HRS.out
                  have h2 := FP.out
                  rw [bt_extract rest 0 n i (by omega) (by omega), Nat.zero_add, BT.out i (by omega), h2])
                unfold Pure.took passed acted
                simp only
                rw [hb, ha, HN.out.1, HN.out.2.1, Int.toNat_natCast, Int.toNat_natCast, HR.out]
                have e6 : Pure.newMode r F' = mm := hmm
                have e7 : (Pure.newMode r F').toNat = mm := by rw [e6]; rfl
                unfold runCells
                simp only [e7]
                rfl
              have KT8 := hide (blk_grown KT7.out (grown_drew (grown_set (grown_set (grown_set (grown_set (grown_set (World.grownBy.refl w7 (some g)) 19 (.int .i64 (Pure.ig E.p.ents mm))) 20 (.int .i64 0)) 21 (.int .i64 0)) 22 (.int .i64 0)) 23 (.int .i64 0))) (fun e => ogt.out (by cases e; rfl)))
              have K9 := hide K8.out.drew
              clear md hmm far hb K8
              go_wp2_with fail
              generalize hEN : Pure.ig E.p.ents mm = en at *
              go_region_held3 (fun w' => w'.cell? ⟨g, 0, none⟩ = some (.slice (some ⟨ge, 0, none⟩) E.p.ents.length ce) ∧ w'.cell? ⟨g, 8, none⟩ = some (.int .i64 mm) ∧ w'.cell? ⟨ge, mm, none⟩ = some (.int .i64 en)) (first | (go_keep; done) | exact T1.out) (fail)
              rename_i hh
              clear hh T1 c0 c8 c19 c20 c21 c22 c23 f19 f20 f21 f22 f23 qe far' t2 ogt' ogt'' K7 KT7 hEN
              generalize (((((w7.setCell ⟨g, 19, none⟩ (.int .i64 en)).setCell ⟨g, 20, none⟩ (.int .i64 0)).setCell ⟨g, 21, none⟩ (.int .i64 0)).setCell ⟨g, 22, none⟩ (.int .i64 0)).setCell ⟨g, 23, none⟩ (.int .i64 0)).drew = W8 at *
              have t2 := blk_cell (j := 2) KT8.out rfl
              go_wp2
              go_roundg (E.s.size - (F'.pos + n).toNat)
              case measure => have := FP.out; omega
              case rel =>
                have TK : Pure.take E F' 0 = Pure.took E.p E.s F' := by unfold Pure.take; rw [if_neg (by omega), if_neg (by have := HN.out.2.2; omega)]
                have ep : (Pure.took E.p E.s F').pos = F'.pos + n := by show F'.pos + F'.marked = _; rw [HN.out.1]
                have ti := Pure.took_inv GD.out HQ.out.1.1 HN.out.2.2
                refine ⟨Pure.took E.p E.s F', (T ++ [⟨k, F'.pos, n, F'.line, F'.col⟩]), _, by rw [ep]; exact congrArg Value.string RS2.out, rfl, by rw [ep], .step HQ.out.2.1 (by rw [HQ.out.2.2.1, TK]), ti.1, ti.2.1, ?_, K9.out.own, K9.out.m.like TOOK.out, K9.out.gr⟩
                show (if (Pure.rg E.p.rules F'.rule.toNat).emit = 1 then F'.toks ++ [⟨F'.rule, F'.pos, F'.marked, F'.line, F'.col⟩] else F'.toks) = _
                rw [HN.out.2.1, Int.toNat_natCast, HR.out, HEM.out, HN.out.1, HQ.out.2.2.2]
                simp
          · have hw' : (Pure.wrong E.p E.depth F' != 0) = true := by simpa using hw
            have TK : Hid (Pure.take E F' 0 = { F' with err := Pure.wrong E.p E.depth F' }) := by show _ = _; unfold Pure.take; rw [if_neg (by omega), if_pos hw]
            have ST := hide (HQ.out.1.1.toSta (f := f) (e := Pure.wrong E.p E.depth F') (by have := HW.out; omega))
            generalize Pure.wrong E.p E.depth F' = er at *
            go_wp2
            go_ret2
            exact adv_fault GD.out K2.out er hw HQ.out.2.1 (by rw [HQ.out.2.2.1, TK.out]) ST.out HQ.out.2.2.2
        · subst h5
          have TK : Hid (Pure.take E F' 5 = { F' with err := 5 }) := by show _ = _; unfold Pure.take; rw [if_pos (by omega)]
          have ST := hide (HQ.out.1.1.toSta (f := f) (e := 5) (by omega))
          clear q hr1 hF0 hlook hm1 hst0 hmic htk K0 hg1 hFp
          go_wp2
          go_ret2
          exact adv_fault GD.out K1.out 5 (by omega) HQ.out.2.1 (by rw [HQ.out.2.2.1, TK.out]) ST.out HQ.out.2.2.2
    · have hpe : D.pos = E.s.size := by omega
      have d0 : ((E.s.extract D.pos.toNat E.s.size).size : Int) = 0 := by omega
      have FIN := hide (And.intro (show Pure.Runs E C D from ⟨HI.out.r, by unfold Pure.mic; rw [if_pos (.inr (by omega))]⟩) (And.intro HI.out.sta (And.intro HI.out.err HI.out.toks)))
      obtain ⟨cap, w2, hcv, hB2, hby⟩ := conv_bytes wr (E.s.extract D.pos.toNat E.s.size) (by omega)
      have m2 := K0.out.m.below hB2
      have c24 := m2.cell (j := 24) rfl
      have f24 := m2.frozen 24
      have HB := hide (And.intro hB2 hby)
      clear hB2 hby m2
      generalize hRE : E.s.extract D.pos.toNat E.s.size = rest at *
      have RE := hide hRE
      clear hRE hpe hrs
      have d1 : decide ((0 : Int) < (rest.size : Int)) = false := decide_eq_false (by omega)
      have d2 : decide (0 < rest.size) = false := decide_eq_false (by omega)
      have d3 : ¬ (0 < rest.size) := by omega
      clear d0
      go_wp2
      go_ret2
      exact adv_held GD.out K0.out HB.out.1 HB.out.2 FIN.out.1 FIN.out.2.1 FIN.out.2.2.1 FIN.out.2.2.2 RE.out

end Go.Proofs.YtmccnmgaoppogaaGreat

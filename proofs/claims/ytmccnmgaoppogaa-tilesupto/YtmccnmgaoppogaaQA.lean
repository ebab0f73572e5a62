/-
  The walks: weirkeep's small functions around a scanner.
  What a scanner that stands may hold, and the walks: over. (weirkeep)
  The walks: Bounds. (weirkeep)
-/
import Derived.Test.YtmccnmgaoppogaaSC
import Derived.Test.YtmccnmgaoppogaaB10
namespace Go.Proofs.Ytmccnmgaoppogaa
open Go.RowKit

set_option maxHeartbeats 1000000 in
theorem numbers_any (most depth : Int) (w : World) (rm : Rng most) (rd : Rng depth) :
    Calls Try.prog 20 #[.int .i64 most, .int .i64 depth] w (RetSame (.tuple #[.int .i64 (1 + Pure.pk most 64), .int .i64 (Pure.pk depth 9)]) w) := by
  have P1 := hide (pick_any most 64 w rm.1 rm.2 (by omega) (by omega))
  have P2 := hide (pick_any depth 9 w rd.1 rd.2 (by omega) (by omega))
  have b1 := Pure.pk_bd most (n := 64) (by omega)
  have b2 := Pure.pk_bd depth (n := 9) (by omega)
  generalize Pure.pk most 64 = a at *
  generalize Pure.pk depth 9 = b at *
  go_enter Try.func20, Try.ntmps20
  go_wp2_with fail
  refine P1.out.mono ?_
  rintro e w1 ⟨rfl, rfl⟩
  go_wp2_with fail
  refine P2.out.mono ?_
  rintro e w2 ⟨rfl, rfl⟩
  go_wp2
  go_ret2
  exact ⟨rfl, rfl⟩

def RetBegun (p : Pure.Prg) (most depth : Int) (w : World) (e : Ending) (w' : World) : Prop :=
  ∃ g, e = .returned (.pointer (some ⟨g, 0, none⟩)) ∧ w.heap.size ≤ g ∧ Below w.heap.size w w' ∧ Sc w' g (env0 p most depth) (cfg0 p)

set_option maxHeartbeats 1000000 in
theorem begun_any (ve vr vc : Value) (p : Pure.Prg) (most depth : Int) (w : World) (hE : Ints w ve p.ents) (hR : Rules w vr p.rules) (hC : Code w vc p.code) (hp : Pure.RightP p) (hm : 1 ≤ most ∧ most ≤ 64) (hd : 0 ≤ depth ∧ depth ≤ 8) :
    Calls Try.prog 21 #[.agg #[ve, vr, vc], .int .i64 most, .int .i64 depth] w (RetBegun p most depth w) := by
  have PK : Hid (∀ W, Below w.heap.size w W → Calls Try.prog 15 #[.agg #[ve, vr, vc]] W (RetPack p W)) := fun W hb => pack_any _ _ _ p W (hE.below hb) (hR.below hb) (hC.below hb)
  obtain ⟨ae, ce, rfl, he1, he2, -⟩ := hE.read
  obtain ⟨ar, cr, rfl, hr1, hr2, -⟩ := hR.read
  obtain ⟨ac, cc, rfl, hc1, hc2, -⟩ := hC.read
  have HP := hide hp
  clear hE hR hC hp
  have HB0 := hide ((Below.refl w.heap.size w).alloc (Nat.le_refl _) (.cells #[.slice ae p.ents.length ce, .slice ar p.rules.length cr, .slice ac p.code.length cc] 26))
  go_enter Try.func21, Try.ntmps21
  go_wp2_with fail
  first | refine (PK.out _ HB0.out).mono ?_ | refine (PK.out _ (Below.refl _ _)).mono ?_
  rintro e w1 ⟨s, c, rfl, hB1, hs⟩
  have hs' : s = strOfNums (Pure.img p) ∧ c = 0 := by
    rcases hs with ⟨_, h1, h2⟩ | ⟨h0, _, _⟩
    · exact ⟨h1, h2⟩
    · exact absurd HP.out h0
  have hc0 := hs'.2
  have hF : Form s ∧ prgOf s = p := by rw [hs'.1]; exact img_form HP.out
  subst hc0
  have hsz2 : s.size ≤ 1000000 := by
    have l1 : (prgOf s).ents.length = nE s := entsOf_len _ _ _
    have l2 : (prgOf s).rules.length = nR s := rulesOf_len _ _ _
    have l3 : (prgOf s).code.length = nC s := codeOf_len _ _ _
    rw [hF.2] at l1 l2 l3
    have := hF.1.2.2.2
    have h1 := HP.out.1.1
    have h2 := HP.out.2.1.1
    have h3 := HP.out.2.2.1.1
    omega
  have HF := hide hF
  have B1 : Hid (Below w.heap.size w w1) := by
    show Below _ _ _
    first | exact HB0.out.trans (hB1.mono HB0.out.size) | exact hB1
  have HM := hide (And.intro hm hd)
  have r1 : Rng most := ⟨by omega, by omega⟩
  have r2 : Rng depth := ⟨by omega, by omega⟩
  have RR := hide (And.intro r1 r2)
  clear hs hs' hF hB1 HB0 PK hm hd r1 r2
  go_wp2_with fail
  refine (start_any s most depth _ (by omega) RR.out.1 RR.out.2).mono ?_
  rintro e w2 (⟨hok, g, rfl, hg, hB2, hS⟩ | ⟨hno, _⟩ | ⟨_, hno, _⟩)
  · have hg1 := HF.out.2
    rw [hg1] at hS
    have FIN : Hid (RetBegun p most depth w (.returned (.pointer (some ⟨g, 0, none⟩))) w2) := ⟨g, rfl, by have := B1.out.size; omega, B1.out.trans (hB2.mono B1.out.size), hS⟩
    clear hok hg hB2 hS hg1
    go_wp2
    go_ret
    exact FIN.out
  · exact absurd ⟨HF.out.1, by rw [HF.out.2]; exact HP.out⟩ hno
  · exact absurd HM.out hno

set_option maxHeartbeats 1000000 in
theorem sameState_eq (a b c d e f g : Int) (w : World) :
    Calls Try.prog 26 #[.agg #[.int .i64 a, .int .i64 b, .int .i64 c, .int .i64 d, .int .i64 e, .int .i64 f, .int .i64 g], .agg #[.int .i64 a, .int .i64 b, .int .i64 c, .int .i64 d, .int .i64 e, .int .i64 f, .int .i64 g]] w (RetT w) := by
  have HB := hide (((Below.refl w.heap.size w).alloc (Nat.le_refl _) (.cells #[.int .i64 a, .int .i64 b, .int .i64 c, .int .i64 d, .int .i64 e, .int .i64 f, .int .i64 g] 60)).alloc (by simp) (.cells #[.int .i64 a, .int .i64 b, .int .i64 c, .int .i64 d, .int .i64 e, .int .i64 f, .int .i64 g] 60))
  go_enter Try.func26, Try.ntmps26
  go_wp2
  go_ret
  exact ⟨rfl, HB.out⟩

/-- what a scanner holds and has done -/
structure Bnd (E : Pure.Env) (C : Pure.Cfg) (fed most code : Int) : Prop where
  s0 : 0 ≤ C.steps
  s1 : C.steps ≤ (C.pos + 1) * (most + 1) * code
  p : 0 ≤ C.pos ∧ C.pos ≤ 1099511627776
  m : 1 ≤ most ∧ most ≤ 64
  c : 1 ≤ code ∧ code ≤ 50000
  bad : C.err ≠ 0 → (heldOf E C).size = 0 ∧ C.pos ≤ fed
  ok : C.err = 0 → ((heldOf E C).size : Int) ≤ most ∧ C.pos + (heldOf E C).size = fed

set_option maxRecDepth 100000 in
set_option maxHeartbeats 2000000 in
theorem bounded_any (g : Nat) (E : Pure.Env) (C : Pure.Cfg) (fed most code : Int) (w : World) (h : Sc w g E C) (hb : Bnd E C fed most code) (hf : 0 ≤ fed ∧ fed ≤ 1099511627776) :
    Calls Try.prog 30 #[.pointer (some ⟨g, 0, none⟩), .int .i64 C.err, .int .i64 fed, .int .i64 most, .int .i64 code] w (RetT w) := by
  have ST := hide (fun W (hW : Sc W g E C) => scState_any g E C W hW)
  have H := hide h
  have hm := hb.m
  have hc := hb.c
  have hp := hb.p
  have q1 : (C.pos + 1) * (most + 1) ≤ (C.pos + 1) * 65 := Int.mul_le_mul_of_nonneg_left (by omega) (by omega)
  have q0 : 0 ≤ (C.pos + 1) * (most + 1) := Int.mul_nonneg (by omega) (by omega)
  have q2 : (C.pos + 1) * (most + 1) * code ≤ (C.pos + 1) * (most + 1) * 50000 := Int.mul_le_mul_of_nonneg_left (by omega) q0
  have q3 : 0 ≤ (C.pos + 1) * (most + 1) * code := Int.mul_nonneg q0 (by omega)
  have s0 := hb.s0
  have s1 := hb.s1
  have BAD := hide hb.bad
  have OK := hide hb.ok
  have w1 : IntKind.i64.wrap (C.pos + 1) = C.pos + 1 := wrap_in _ (by omega) (by omega)
  have w2 : IntKind.i64.wrap (most + 1) = most + 1 := wrap_in _ (by omega) (by omega)
  have w3 : IntKind.i64.wrap ((C.pos + 1) * (most + 1)) = (C.pos + 1) * (most + 1) := wrap_in _ (by omega) (by omega)
  have w4 : IntKind.i64.wrap ((C.pos + 1) * (most + 1) * code) = (C.pos + 1) * (most + 1) * code := wrap_in _ (by omega) (by omega)
  have d1 : decide (C.steps < 0) = false := decide_eq_false (by omega)
  have d2 : decide ((C.pos + 1) * (most + 1) * code < C.steps) = false := decide_eq_false (by omega)
  clear h hb q1 q0 q2 q3 s1 s0
  go_enter Try.func30, Try.ntmps30
  go_wp2_with fail
  refine (ST.out _ H.out).mono ?_
  rintro e w5 ⟨rfl, hB⟩
  have HB := hide (hB.alloc hB.size (.cells #[.int .i64 C.pos, .int .i64 C.line, .int .i64 C.col, .int .i64 C.mode, .int .i64 C.dep, .int .i64 (heldOf E C).size, .int .i64 C.steps] 60))
  clear hB ST H
  unfold stateV
  generalize (heldOf E C).size = hz at *
  by_cases he : C.err = 0
  · have ok := OK.out he
    have e1 : (C.err != 0) = false := by simp [he]
    have w5' : IntKind.i64.wrap (C.pos + (hz : Int)) = C.pos + hz := wrap_in _ (by omega) (by omega)
    have d3 : decide ((hz : Int) ≤ most) = true := decide_eq_true ok.1
    have d4 : (C.pos + (hz : Int) == fed) = true := by simpa using ok.2
    clear OK BAD he
    go_wp2
    go_ret
    exact ⟨by simp, HB.out⟩
  · have bad := BAD.out he
    have e1 : (C.err != 0) = true := by simpa using he
    have hz0 : hz = 0 := bad.1
    have d3 : decide (C.pos ≤ fed) = true := decide_eq_true bad.2
    subst hz0
    clear OK BAD he
    go_wp2
    go_ret
    exact ⟨by simp, HB.out⟩

end Go.Proofs.Ytmccnmgaoppogaa

namespace Go.Proofs.Ytmccnmgaoppogaa
open Go.RowKit

theorem Pure.look_wait {E : Pure.Env} {C : Pure.Cfg} (h : Pure.look E C = .wait) : E.ended = false ∧ (E.s.size : Int) ≤ C.pos + C.looked := by
  unfold Pure.look at h
  simp only at h
  split at h
  · cases h
  split at h
  · split at h
    · rename_i h2
      split at h
      · cases h
      · rename_i h3
        exact ⟨by cases hh : E.ended with | true => exact absurd hh h3 | false => rfl, h2⟩
    · split at h <;> cases h
  split at h
  · cases h
  split at h <;> cases h

theorem Pure.mic_none {E : Pure.Env} {C : Pure.Cfg} (h : Pure.mic E C = none) (he : C.err = 0) : (E.s.size : Int) ≤ C.pos ∨ Pure.look E C = .wait := by
  unfold Pure.mic at h
  split at h
  · rename_i h1
    rcases h1 with h1 | h1
    · exact absurd he h1
    · exact .inl h1
  · cases hl : Pure.look E C with
    | wait => exact .inr rfl
    | go D => rw [hl] at h; cases h
    | stop D e => rw [hl] at h; cases h

theorem Sc.good {w : World} {g : Nat} {E : Pure.Env} {C : Pure.Cfg} (h : Sc w g E C) : ∃ f, Pure.Good E f ∧ Pure.Sta E f C := by
  obtain ⟨f, ve, vr, vc, vh, b, hb, hS⟩ := h
  have g := hS.good
  have s := hS.sta
  exact ⟨f, ⟨g.right, g.most, g.depth, g.f0, g.f1⟩, ⟨s.pos, s.looked, s.within, s.marked, s.ins, s.c, s.rule, s.mode, s.stk, s.dep, s.line, s.col, s.steps, s.live, s.err, s.toks⟩⟩

theorem held_size {E : Pure.Env} {C : Pure.Cfg} (he : C.err = 0) : (heldOf E C).size = E.s.size - C.pos.toNat := by
  unfold heldOf
  rw [if_neg (by omega)]
  simp
theorem held_none {E : Pure.Env} {C : Pure.Cfg} (he : C.err ≠ 0) : heldOf E C = ⟨#[]⟩ := by
  unfold heldOf
  rw [if_pos he]

theorem bnd_of {E : Pure.Env} {f : Nat → Int} {C : Pure.Cfg} (g : Pure.Good E f) (h : Pure.Sta E f C) (hn : Pure.mic E C = none) (_hE : E.ended = false) (hs : E.s.size ≤ 1099511627776) : Bnd E C E.s.size E.most E.p.code.length := by
  have hp := h.pos
  have hl := h.looked
  have hw := h.within
  have st := h.steps
  have pu := Pure.per_up (E := E) (a := C.pos) (b := C.pos + 1) (k := C.looked) h.looked (by omega)
  refine ⟨st.1, ?_, ⟨hp, by omega⟩, g.most, by have := g.n1; omega, fun he => ⟨by rw [held_none he]; rfl, by omega⟩, fun he => ?_⟩
  · rw [Int.mul_assoc]
    have : Pure.per E = (E.most + 1) * E.p.code.length := rfl
    rw [← this]
    omega
  · rw [held_size he]
    rcases Pure.mic_none hn he with h1 | h1
    · omega
    · have := (Pure.look_wait h1).2
      omega

theorem end_of {E : Pure.Env} {f : Nat → Int} {C : Pure.Cfg} (h : Pure.Sta E f C) (hn : Pure.mic E C = none) (hE : E.ended = true) (he : C.err = 0) : C.pos = E.s.size := by
  have hw := h.within
  have hl := h.looked
  rcases Pure.mic_none hn he with h1 | h1
  · omega
  · have := (Pure.look_wait h1).1
    rw [hE] at this
    cases this

/-- an error stands: nothing more comes -/
theorem fed_err {g : Nat} {E : Pure.Env} {C : Pure.Cfg} {w w' : World} {e : Ending} (h : RetFed g E C w e w') (he : C.err ≠ 0) : ∃ ao cap, e = .returned (.tuple #[.slice ao 0 cap, .int .i64 C.err]) ∧ cap ≤ 9223372036854775807 ∧ Sc w' g E C ∧ w.grownBy w' (some g) := by
  obtain ⟨D, T, vt, hr, ht, rfl, ho, hS, hg⟩ := h
  have : C = D := hr.1.done (Pure.mic_err he)
  subst this
  have hT : T = [] := by
    have := congrArg List.length ht
    rw [List.length_append] at this
    exact List.eq_nil_of_length_eq_zero (by omega)
  subst hT
  obtain ⟨ao, cap, rfl, _, h2, _⟩ := own_read ho
  unfold maxLen at h2
  exact ⟨ao, cap, rfl, h2, hS, hg⟩

def sCells (E : Pure.Env) (C : Pure.Cfg) : List Value := [.int .i64 C.pos, .int .i64 C.line, .int .i64 C.col, .int .i64 C.mode, .int .i64 C.dep, .int .i64 (heldOf E C).size, .int .i64 C.steps]

set_option maxRecDepth 100000 in
set_option maxHeartbeats 2000000 in
theorem over_shut (g : Nat) (E : Pure.Env) (C : Pure.Cfg) (w : World) (h : Sc w g E C) (hE : E.ended = true) :
    Calls Try.prog 31 #[.pointer (some ⟨g, 0, none⟩), .int .i64 (shut true C.err)] w (RetT w) := by
  have ST := hide (fun W (hW : Sc W g E C) => scState_any g E C W hW)
  have F1 := hide (fun W (hW : Sc W g E C) => feed_shut g E C ⟨#[97]⟩ W hW hE)
  have F2 := hide (fun W (hW : Sc W g E C) => finish_shut g E C W hW hE)
  have F3 := hide (fun W (hW : Sc W g E C) => feed_shut g E C ⟨#[]⟩ W hW hE)
  have H := hide h
  generalize shut true C.err = z at *
  clear h hE
  go_enter Try.func31, Try.ntmps31
  go_wp2_with fail
  refine (ST.out _ H.out).mono ?_
  rintro e w1 ⟨rfl, hB⟩
  unfold stateV
  have H1 := hide ((H.out.below hB).below ((Below.refl _ _).alloc (Nat.le_refl _) (.cells #[.int .i64 C.pos, .int .i64 C.line, .int .i64 C.col, .int .i64 C.mode, .int .i64 C.dep, .int .i64 (heldOf E C).size, .int .i64 C.steps] 60)))
  have B1 := hide (hB.alloc hB.size (.cells #[.int .i64 C.pos, .int .i64 C.line, .int .i64 C.col, .int .i64 C.mode, .int .i64 C.dep, .int .i64 (heldOf E C).size, .int .i64 C.steps] 60))
  clear hB H
  go_wp2_with fail
  refine (F1.out _ H1.out).mono ?_
  rintro e w2 ⟨rfl, rfl⟩
  clear F1
  go_wp2_with fail
  refine (F2.out _ H1.out).mono ?_
  rintro e w2 ⟨rfl, rfl⟩
  clear F2
  go_wp2_with fail
  refine (F3.out _ H1.out).mono ?_
  rintro e w2 ⟨rfl, rfl⟩
  clear F3
  have K1 : Blk (w1.alloc (.cells #[.int .i64 C.pos, .int .i64 C.line, .int .i64 C.col, .int .i64 C.mode, .int .i64 C.dep, .int .i64 (heldOf E C).size, .int .i64 C.steps] 60)) w1.heap.size 60 [.int .i64 C.pos, .int .i64 C.line, .int .i64 C.col, .int .i64 C.mode, .int .i64 C.dep, .int .i64 (heldOf E C).size, .int .i64 C.steps] := heap_alloc_new _ _
  go_wp2_with fail
  refine (ST.out _ H1.out).mono ?_
  rintro e w3 ⟨rfl, hB3⟩
  unfold stateV
  have K3 := blk_below K1 hB3 (blk_lt K1)
  have B3 := hide ((B1.out.trans (hB3.mono B1.out.size)))
  generalize w1.heap.size = gs at *
  have lt3 := blk_lt K3
  have ne3 : gs ≠ w3.heap.size := by omega
  have k0 := blk_cell (j := 0) K3 rfl
  have k1 := blk_cell (j := 1) K3 rfl
  have k2 := blk_cell (j := 2) K3 rfl
  have k3 := blk_cell (j := 3) K3 rfl
  have k4 := blk_cell (j := 4) K3 rfl
  have k5 := blk_cell (j := 5) K3 rfl
  have k6 := blk_cell (j := 6) K3 rfl
  clear K1 K3 hB3 ST H1 B1
  generalize (heldOf E C).size = hz at *
  go_wp2_with fail
  refine (sameState_eq _ _ _ _ _ _ _ _).mono ?_
  rintro e w4 ⟨rfl, hB4⟩
  have B4 : Hid (Below w.heap.size w w4) := (B3.out.alloc B3.out.size _).trans (hB4.mono (by have := B3.out.size; simp; omega))
  clear hB4 B3 k0 k1 k2 k3 k4 k5 k6
  go_wp2
  go_ret
  exact ⟨by simp, B4.out⟩

def RetOver (g : Nat) (w : World) (e : Ending) (w' : World) : Prop := e = .returned (.bool true) ∧ w.grownBy w' (some g)

set_option maxRecDepth 100000 in
set_option maxHeartbeats 2000000 in
theorem over_err (g : Nat) (E : Pure.Env) (C : Pure.Cfg) (w : World) (h : Sc w g E C) (hE : E.ended = false) (he : C.err ≠ 0) (hs : E.s.size ≤ 549755813888) :
    Calls Try.prog 31 #[.pointer (some ⟨g, 0, none⟩), .int .i64 C.err] w (RetOver g w) := by
  have ST := hide (fun W E' (hW : Sc W g E' C) => scState_any g E' C W hW)
  have F1 : Hid (∀ W, Sc W g E C → Calls Try.prog 29 #[.pointer (some ⟨g, 0, none⟩), .string ⟨#[97]⟩] W (RetFed g (E.on ⟨#[97]⟩ false) C W)) := fun W hW => feed_any g E C ⟨#[97]⟩ W hW hE (by show E.s.size + 1 ≤ _; omega)
  have F2 : Hid (∀ W, Sc W g (E.on ⟨#[97]⟩ false) C → Calls Try.prog 32 #[.pointer (some ⟨g, 0, none⟩)] W (RetFed g ((E.on ⟨#[97]⟩ false).on noBytes true) C W)) := fun W hW => finish_any g _ C W hW rfl (by rw [Pure.on_size]; show E.s.size + 1 ≤ _; omega)
  have F3 := hide (fun W (hW : Sc W g ((E.on ⟨#[97]⟩ false).on noBytes true) C) => feed_shut g _ C ⟨#[]⟩ W hW rfl)
  have z0 : shut true C.err = C.err := by unfold shut; rw [if_pos he]
  rw [z0] at F3
  have hh : Hid (∀ E', (heldOf E' C).size = 0) := fun E' => by rw [held_none he]; rfl
  have H := hide h
  have HE := hide he
  clear h hE hs z0
  go_enter Try.func31, Try.ntmps31
  go_wp2_with fail
  refine (ST.out _ E H.out).mono ?_
  rintro e w1 ⟨rfl, hB⟩
  unfold stateV
  rw [hh.out E]
  have H1 := hide ((H.out.below hB).below ((Below.refl _ _).alloc (Nat.le_refl _) (.cells #[.int .i64 C.pos, .int .i64 C.line, .int .i64 C.col, .int .i64 C.mode, .int .i64 C.dep, .int .i64 ((0 : Nat) : Int), .int .i64 C.steps] 60)))
  have G1 : Hid (w.grownBy (w1.alloc (.cells #[.int .i64 C.pos, .int .i64 C.line, .int .i64 C.col, .int .i64 C.mode, .int .i64 C.dep, .int .i64 ((0 : Nat) : Int), .int .i64 C.steps] 60)) (some g)) := grown_alloc (grown_below (World.grownBy.refl w (some g)) hB) _
  have K1 : Hid (Blk (w1.alloc (.cells #[.int .i64 C.pos, .int .i64 C.line, .int .i64 C.col, .int .i64 C.mode, .int .i64 C.dep, .int .i64 ((0 : Nat) : Int), .int .i64 C.steps] 60)) w1.heap.size 60 [.int .i64 C.pos, .int .i64 C.line, .int .i64 C.col, .int .i64 C.mode, .int .i64 C.dep, .int .i64 ((0 : Nat) : Int), .int .i64 C.steps]) := heap_alloc_new _ _
  have ogs : Hid (w1.heap.size ≠ g) := by have h1 := H.out.lt; have h2 := hB.size; show _ ≠ _; omega
  clear hB H
  go_wp2_with fail
  generalize w1.alloc (.cells #[.int .i64 C.pos, .int .i64 C.line, .int .i64 C.col, .int .i64 C.mode, .int .i64 C.dep, .int .i64 ((0 : Nat) : Int), .int .i64 C.steps] 60) = W1 at *
  generalize w1.heap.size = gs at *
  refine (F1.out _ H1.out).mono ?_
  intro e w2 hf
  obtain ⟨a1, q1, rfl, hq1, hS2, hg2⟩ := fed_err hf HE.out
  have H2 := hide hS2
  have G2 := hide (Lib.grownBy_trans G1.out hg2)
  have K2 := hide (blk_grown K1.out hg2 (fun e => ogs.out (by cases e; rfl)))
  clear hf F1 hS2 hg2 G1 K1 H1
  go_wp2_with fail
  refine (F2.out _ H2.out).mono ?_
  intro e w3 hf
  obtain ⟨a2, q2, rfl, hq2, hS3, hg3⟩ := fed_err hf HE.out
  have H3 := hide hS3
  have G3 := hide (Lib.grownBy_trans G2.out hg3)
  have K3 := hide (blk_grown K2.out hg3 (fun e => ogs.out (by cases e; rfl)))
  clear hf F2 hS3 hg3 G2 K2 H2
  go_wp2_with fail
  refine (F3.out _ H3.out).mono ?_
  rintro e w4 ⟨rfl, rfl⟩
  clear F3
  go_wp2_with fail
  refine (ST.out _ _ H3.out).mono ?_
  rintro e w5 ⟨rfl, hB5⟩
  unfold stateV
  rw [hh.out]
  have K5 := blk_below K3.out hB5 (blk_lt K3.out)
  have G5 := hide (grown_below G3.out hB5)
  have lt5 := blk_lt K5
  have ne5 : gs ≠ w5.heap.size := by omega
  have k0 := blk_cell (j := 0) K5 rfl
  have k1 := blk_cell (j := 1) K5 rfl
  have k2 := blk_cell (j := 2) K5 rfl
  have k3 := blk_cell (j := 3) K5 rfl
  have k4 := blk_cell (j := 4) K5 rfl
  have k5 := blk_cell (j := 5) K5 rfl
  have k6 := blk_cell (j := 6) K5 rfl
  clear K3 K5 hB5 ST H3 G3
  go_wp2_with fail
  refine (sameState_eq _ _ _ _ _ _ _ _).mono ?_
  rintro e w6 ⟨rfl, hB6⟩
  have G6 : Hid (w.grownBy w6 (some g)) := grown_below (grown_alloc G5.out _) hB6
  clear hB6 G5 k0 k1 k2 k3 k4 k5 k6
  go_wp2
  go_ret
  exact ⟨by simp, G6.out⟩

end Go.Proofs.Ytmccnmgaoppogaa

namespace Go.Proofs.Ytmccnmgaoppogaa
open Go.RowKit

/-- a list of strings lies there -/
def sg (l : List ByteArray) (i : Nat) : ByteArray := l.getD i noBytes
def Strs (w : World) (v : Value) (l : List ByteArray) : Prop := ∃ ao cap, v = .slice ao l.length cap ∧ l.length ≤ cap ∧ cap ≤ 9223372036854775807 ∧
    ∀ i, i < l.length → ∃ b off, ao = some ⟨b, off, none⟩ ∧ b < w.heap.size ∧ w.cell? ⟨b, off + i, none⟩ = some (.string (sg l i))
theorem Strs.read {w : World} {v : Value} {l : List ByteArray} (h : Strs w v l) : ∃ ao cap, v = .slice ao l.length cap ∧ l.length ≤ cap ∧ cap ≤ 9223372036854775807 ∧
    ∀ i, i < l.length → ∃ b off, ao = some ⟨b, off, none⟩ ∧ b < w.heap.size ∧ w.cell? ⟨b, off + i, none⟩ = some (.string (sg l i)) := h

/-- the first k of them, one behind the other -/
def catN (l : List ByteArray) : Nat → ByteArray
  | 0 => noBytes
  | k + 1 => catN l k ++ sg l k
def sumN (l : List ByteArray) : Nat → Nat
  | 0 => 0
  | k + 1 => sumN l k + (sg l k).size
theorem cat_size (l : List ByteArray) : ∀ k, (catN l k).size = sumN l k
  | 0 => rfl
  | k + 1 => by rw [catN, sumN, ByteArray.size_append, cat_size l k]
theorem sum_le (l : List ByteArray) : ∀ {a b : Nat}, a ≤ b → sumN l a ≤ sumN l b := by
  intro a b h
  induction h with
  | refl => exact Nat.le_refl _
  | step _ ih => rw [sumN]; omega

def envK (p : Pure.Prg) (m d : Int) (l : List ByteArray) (k : Nat) : Pure.Env := ⟨p, m, d, catN l k, false⟩
theorem envK_on (p : Pure.Prg) (m d : Int) (l : List ByteArray) (k : Nat) : (envK p m d l k).on (sg l k) false = envK p m d l (k + 1) := rfl

/-- a program in a block of the call's own, a scanner of it -/
structure Rnd (w : World) (gp g : Nat) (VE VR VC : Value) (E : Pure.Env) (C : Pure.Cfg) (W : World) : Prop where
  blk : Blk W gp 26 [VE, VR, VC]
  sc : Sc W g E C
  bel : Below w.heap.size w W
  new : w.heap.size ≤ g
  ne : gp ≠ g
theorem Rnd.on {w : World} {gp g : Nat} {VE VR VC : Value} {E E' : Pure.Env} {C C' : Pure.Cfg} {W W' : World} (r : Rnd w gp g VE VR VC E C W) (hg : W.grownBy W' (some g)) (hS : Sc W' g E' C') : Rnd w gp g VE VR VC E' C' W' :=
  ⟨blk_grown r.blk hg (fun e => r.ne (by cases e; rfl)), hS, r.bel.grown hg r.bel.size (fun k hk => by cases hk; exact r.new), r.new, r.ne⟩
theorem Rnd.below {w : World} {gp g : Nat} {VE VR VC : Value} {E : Pure.Env} {C : Pure.Cfg} {W W' : World} (r : Rnd w gp g VE VR VC E C W) (hb : Below W.heap.size W W') : Rnd w gp g VE VR VC E C W' :=
  ⟨blk_below r.blk hb (blk_lt r.blk), r.sc.below hb, bel0 r.bel hb, r.new, r.ne⟩

def RetTW (w : World) (e : Ending) (w' : World) : Prop := e = .returned (.bool true) ∧ Below w.heap.size w w'

set_option maxRecDepth 100000 in
set_option maxHeartbeats 4000000 in
theorem bounds_any (ve vr vc vs : Value) (r : Pure.Prg) (most depth : Int) (l : List ByteArray) (w : World) (hE : Ints w ve r.ents) (hR : Rules w vr r.rules) (hC : Code w vc r.code) (rE : IntsR r.ents) (rR : RulesR r.rules) (rC : InsR r.code) (rm : Rng most) (rd : Rng depth) (hS : Strs w vs l) (hsum : sumN l l.length ≤ 274877906944) :
    Calls Try.prog 8 #[.agg #[ve, vr, vc], .int .i64 most, .int .i64 depth, vs] w (RetTW w) := by
  have P1 : Hid (∀ o, Calls Try.prog 14 #[.agg #[ve, vr, vc]] (w.alloc o) (RetShaped (w.alloc o))) := fun o => by
    have hb := (Below.refl w.heap.size w).alloc (Nat.le_refl _) o
    exact shaped_any ve vr vc r _ (hE.below hb) (hR.below hb) (hC.below hb) rE rR rC
  obtain ⟨ae, ce, rfl, he1, he2, -⟩ := hE.read
  obtain ⟨ar, cr, rfl, hr1, hr2, -⟩ := hR.read
  obtain ⟨ac, cc, rfl, hc1, hc2, -⟩ := hC.read
  obtain ⟨az, cz, rfl, hs1, hs2, hread⟩ := hS.read
  have RD := hide hread
  have NU := hide (fun W => numbers_any most depth W rm rd)
  have mb := Pure.pk_bd most (n := 64) (by omega)
  have db := Pure.pk_bd depth (n := 9) (by omega)
  have hmm : 1 ≤ 1 + Pure.pk most 64 ∧ 1 + Pure.pk most 64 ≤ 64 := by omega
  have hdd : 0 ≤ Pure.pk depth 9 ∧ Pure.pk depth 9 ≤ 8 := by omega
  generalize 1 + Pure.pk most 64 = m at *
  generalize Pure.pk depth 9 = d at *
  have HMD := hide (And.intro hmm hdd)
  have HSUM := hide hsum
  clear hE hR hC rE rR rC rm rd hS hread mb db hsum
  go_enter Try.func8, Try.ntmps8
  go_wp2_with fail
  refine (P1.out _).mono ?_
  rintro e w1 ⟨p, hp, hlast, VE, VR, VC, rfl, hB1, oE, oR, oC⟩
  have hm := hp.1.1
  have hk := hp.2.1.1
  have hn := hp.2.2.1.1
  obtain ⟨gE, cE, rfl, hE1, hE2⟩ := own_some oE (by omega)
  obtain ⟨gR, cR, rfl, hR1, hR2⟩ := own_some oR (by omega)
  obtain ⟨gC, cC, rfl, hC1, hC2⟩ := own_some oC (by omega)
  have bel1 := bel1 (Below.refl _ _) hB1
  have K2 : Hid (Kept w (w1.alloc (.cells #[.slice (some ⟨gE, 0, none⟩) p.ents.length cE, .slice (some ⟨gR, 0, none⟩) p.rules.length cR, .slice (some ⟨gC, 0, none⟩) p.code.length cC] 26)) w1.heap.size (.slice (some ⟨gE, 0, none⟩) p.ents.length cE) (.slice (some ⟨gR, 0, none⟩) p.rules.length cR) (.slice (some ⟨gC, 0, none⟩) p.code.length cC) p) :=
    ⟨heap_alloc_new _ _, own_ints (World.ownsRow.alloc oE _) rfl, own_rules (World.ownsRow.alloc oR _) rfl, own_code (World.ownsRow.alloc oC _) rfl, bel1.alloc bel1.size _⟩
  have HP := hide hp
  have gpn : w.heap.size ≤ w1.heap.size := bel1.size
  clear oE oR oC bel1 hB1 hp hlast P1 hm hk
  go_wp2_with fail
  refine (NU.out _).mono ?_
  rintro e w2 ⟨rfl, rfl⟩
  clear NU
  go_wp2_with fail
  refine (begun_any _ _ _ p m d _ K2.out.e K2.out.r K2.out.c HP.out HMD.out.1 HMD.out.2).mono ?_
  rintro e w3 ⟨g, rfl, hgn, hB3, hSc⟩
  have R3 : Hid (Rnd w w1.heap.size g (.slice (some ⟨gE, 0, none⟩) p.ents.length cE) (.slice (some ⟨gR, 0, none⟩) p.rules.length cR) (.slice (some ⟨gC, 0, none⟩) p.code.length cC) (envK p m d l 0) (cfg0 p) w3) :=
    ⟨blk_below K2.out.blk hB3 (blk_lt K2.out.blk), hSc, bel0 K2.out.bel hB3, by have := K2.out.bel.size; omega, by simp at hgn; omega⟩
  clear K2 hgn hB3 hSc
  generalize w1.heap.size = gp at *
  go_wp2_with fail
  go_loopg [13, 14] l.length (fun gk fd i wr => ∃ (k : Nat) (C : Pure.Cfg), k ≤ l.length ∧ gk = l.length - k ∧ fd = .int .i64 (sumN l k : Int) ∧ i = .int .i64 k ∧ C.err = 0 ∧ Rnd w gp g (.slice (some ⟨gE, 0, none⟩) p.ents.length cE) (.slice (some ⟨gR, 0, none⟩) p.rules.length cR) (.slice (some ⟨gC, 0, none⟩) p.code.length cC) (envK p m d l k) C wr)
  case atStart => exact ⟨0, cfg0 p, Nat.zero_le _, rfl, rfl, rfl, rfl, R3.out⟩
  case round =>
    clear R3
    obtain ⟨k, C, hkl, rfl, rfl, rfl, hC0, hR⟩ := hrel
    have HR := hide hR
    have HC0 := hide hC0
    clear hR hC0
    have sk := sum_le l hkl
    have sk' := HSUM.out
    by_cases hlt : k < l.length
    · have sk1 := sum_le l (show k + 1 ≤ l.length by omega)
      obtain ⟨b, off, rfl, hb, hc⟩ := RD.out k hlt
      have g0 := (HR.out.bel.cell (p := ⟨b, off + k, none⟩) hb).trans hc
      have hki : (k : Int) < (l.length : Int) := by omega
      have FD : Hid (∀ W, Sc W g (envK p m d l k) C → Calls Try.prog 29 #[.pointer (some ⟨g, 0, none⟩), .string (sg l k)] W (RetFed g (envK p m d l (k + 1)) C W)) := fun W hW => feed_any g (envK p m d l k) C (sg l k) W hW rfl (by show (catN l k).size + _ ≤ _; rw [cat_size]; rw [sumN] at sk1; omega)
      have es : sumN l (k + 1) = sumN l k + (sg l k).size := rfl
      go_wp2_with fail
      refine (FD.out _ HR.out.sc).mono ?_
      rintro e w4 ⟨D, T, vt, hr, ht, rfl, ho, hS4, hg4⟩
      obtain ⟨f, gd, st⟩ := hS4.good
      have bd := bnd_of gd st hr.2 rfl (by show (catN l (k + 1)).size ≤ _; rw [cat_size]; omega)
      have hfz : ((envK p m d l (k + 1)).s.size : Int) = (sumN l k : Int) + ((sg l k).size : Int) := by show ((catN l (k + 1)).size : Int) = _; rw [cat_size, es]; omega
      rw [hfz] at bd
      have BD := hide (fun W hW => bounded_any g (envK p m d l (k + 1)) D ((sumN l k : Int) + ((sg l k).size : Int)) m p.code.length W hW bd (by omega))
      have R4 := hide (HR.out.on hg4 hS4)
      obtain ⟨at', ct, rfl, -, -, -⟩ := own_read ho
      have g1 := (R4.out.bel.cell (p := ⟨b, off + k, none⟩) hb).trans hc
      have o2 := blk_cell (j := 2) R4.out.blk rfl
      have wr1 : IntKind.i64.wrap ((sumN l k : Int) + ((sg l k).size : Int)) = (sumN l k : Int) + ((sg l k).size : Int) := wrap_in _ (by omega) (by omega)
      have OV : Hid (D.err ≠ 0 → ∀ W, Sc W g (envK p m d l (k + 1)) D → Calls Try.prog 31 #[.pointer (some ⟨g, 0, none⟩), .int .i64 D.err] W (RetOver g W)) := fun he W hW => over_err g _ D W hW rfl he (by show (catN l (k + 1)).size ≤ _; rw [cat_size]; omega)
      clear FD hr ht ho hS4 hg4 gd st bd hfz HR HC0
      go_wp2_with fail
      refine (BD.out _ R4.out.sc).mono ?_
      clear BD
      rintro e w5 ⟨rfl, hB5⟩
      have R5 := hide (R4.out.below hB5)
      clear R4 hB5 o2 g1 g0
      by_cases hD : D.err = 0
      · have e1 : (D.err != 0) = false := by simp [hD]
        have HD := hide hD
        clear hD OV
        go_wp2
        go_roundg (l.length - (k + 1))
        case measure => omega
        case rel => exact ⟨k + 1, D, by omega, rfl, by rw [es]; go_num, by go_num, HD.out, R5.out⟩
      · have e1 : (D.err != 0) = true := by simpa using hD
        have OV' := hide (OV.out hD)
        clear OV hD
        go_wp2_with fail
        refine (OV'.out _ R5.out.sc).mono ?_
        rintro e w6 ⟨rfl, hg6⟩
        have FIN := hide (R5.out.bel.grown hg6 R5.out.bel.size (fun k hk => by cases hk; exact R5.out.new))
        clear OV' R5 hg6
        go_wp2
        go_ret
        exact ⟨rfl, FIN.out⟩
    · have hkl' : k = l.length := by omega
      subst hkl'
      have FN : Hid (∀ W, Sc W g (envK p m d l l.length) C → Calls Try.prog 32 #[.pointer (some ⟨g, 0, none⟩)] W (RetFed g ((envK p m d l l.length).on noBytes true) C W)) := fun W hW => finish_any g _ C W hW rfl (by show (catN l _).size ≤ _; rw [cat_size]; omega)
      go_wp2_with fail
      refine (FN.out _ HR.out.sc).mono ?_
      rintro e w4 ⟨D, T, vt, hr, ht, rfl, ho, hS4, hg4⟩
      obtain ⟨f, gd, st⟩ := hS4.good
      have esz : ((envK p m d l l.length).on noBytes true).s.size = sumN l l.length := by rw [Pure.on_size]; show (catN l _).size + 0 = _; rw [cat_size, Nat.add_zero]
      have EN : Hid (D.err = 0 → D.pos = (sumN l l.length : Int) ∧ (heldOf ((envK p m d l l.length).on noBytes true) D).size = 0) := fun he => by
        have := end_of st hr.2 rfl he
        rw [esz] at this
        refine ⟨this, ?_⟩
        rw [held_size he, esz]
        omega
      have R4 := hide (HR.out.on hg4 hS4)
      obtain ⟨at', ct, rfl, -, -, -⟩ := own_read ho
      have ST := hide (fun W hW => scState_any g ((envK p m d l l.length).on noBytes true) D W hW)
      have OV := hide (fun W hW => over_shut g ((envK p m d l l.length).on noBytes true) D W hW rfl)
      clear FN hr ht ho hS4 hg4 gd st HR HC0
      go_wp2_with fail
      refine (ST.out _ R4.out.sc).mono ?_
      rintro e w5 ⟨rfl, hB5⟩
      unfold stateV
      generalize hEE : (envK p m d l l.length).on noBytes true = EE at *
      generalize hZ : (heldOf EE D).size = hz at *
      have R5 := hide ((R4.out.below hB5).below ((Below.refl _ _).alloc (Nat.le_refl _) (.cells #[.int .i64 D.pos, .int .i64 D.line, .int .i64 D.col, .int .i64 D.mode, .int .i64 D.dep, .int .i64 hz, .int .i64 D.steps] 60)))
      clear ST R4 hB5 hZ hEE esz
      by_cases hD : D.err = 0
      · have e1 : (D.err == 0) = true := by simp [hD]
        have en := EN.out hD
        have hz0 : hz = 0 := en.2
        have e2 : (D.pos == (sumN l l.length : Int)) = true := by simpa using en.1
        have eo : shut true D.err = 8 := by unfold shut; rw [if_neg (by omega)]; rfl
        rw [eo] at OV
        have EPH := hide en.1
        have e3 : ((hz : Int) == 0) = true := by simp [hz0]
        have HZ := hide hz0
        clear EN hD en eo hz0
        go_wp2_with fail
        refine (OV.out _ R5.out.sc).mono ?_
        rintro e w6 ⟨rfl, hB6⟩
        have FIN := hide (bel0 R5.out.bel hB6)
        clear OV R5 hB6
        go_wp2
        go_ret
        exact ⟨by simp [EPH.out, HZ.out], FIN.out⟩
      · have e1 : (D.err == 0) = false := by simpa using hD
        have eo : shut true D.err = D.err := by unfold shut; rw [if_pos hD]
        rw [eo] at OV
        clear EN hD eo
        go_wp2_with fail
        refine (OV.out _ R5.out.sc).mono ?_
        rintro e w6 ⟨rfl, hB6⟩
        have FIN := hide (bel0 R5.out.bel hB6)
        clear OV R5 hB6
        go_wp2
        go_ret
        exact ⟨rfl, FIN.out⟩

end Go.Proofs.Ytmccnmgaoppogaa

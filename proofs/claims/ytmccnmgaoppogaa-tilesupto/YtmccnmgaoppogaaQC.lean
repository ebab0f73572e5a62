/-
  The walks: told. (weirkeep)
  The program of which every byte is a token: what it does.
  The walks: single, every. (weirkeep)
  The walks: pieces, sameTokens. (weirkeep)
  The walks: Split. (weirkeep)
-/
import Derived.Test.YtmccnmgaoppogaaQA
import Derived.Laws.AppendOwnNone
import Derived.Test.YtmccnmgaoppogaaSC
namespace Go.Proofs.Ytmccnmgaoppogaa
open Go.RowKit

def strCells (l : List ByteArray) : List Value := l.map Value.string
theorem strCells_get (l : List ByteArray) (i : Nat) (h : i < l.length) : (strCells l)[i]? = some (.string (sg l i)) := by
  simp [strCells, sg, List.getElem?_eq_getElem h]

theorem ByteRow.other {W W' : World} {v vo : Value} {s : ByteArray} {base e size n : Nat} {xs : List Value} (h : ByteRow W v s) (ho : W.ownsRow base e size vo n xs) (he : e ≠ 5) (hg : W.grownBy W' vo.ownBlock) : ByteRow W' v s := by
  rcases h with h | ⟨b, cap, cs, fr, h1, h2, h2', h3, h4⟩
  · exact .inl h
  · refine .inr ⟨b, cap, cs, fr, h1, h2, h2', ?_, h4⟩
    rw [hg.block b (Array.getElem?_eq_some_iff.1 h3).1 ?_]
    · exact h3
    · intro e1
      rcases ho.2 with ⟨rfl, _⟩ | ⟨g', cap', cur, rfl, _, hgg, _⟩
      · simp [Value.ownBlock] at e1
      · simp only [Value.ownBlock, Option.some.injEq] at e1
        subst e1
        rw [h3] at hgg
        simp at hgg
        exact he hgg.2.1.symm

theorem Sc.other {W W' : World} {g : Nat} {E : Pure.Env} {C : Pure.Cfg} {vo : Value} {base n : Nat} {xs : List Value} (h : Sc W g E C) (ho : W.ownsRow base 90 5 vo n xs) (hg : W.grownBy W' vo.ownBlock) : Sc W' g E C := by
  obtain ⟨f, ve, vr, vc, vh, b, hb, hS⟩ := h
  exact ⟨f, ve, vr, vc, vh, b, hb, ⟨far_blk ho hS.m.blk (by decide) hg, ⟨own_other hS.m.l.e ho (by decide) hg, own_other hS.m.l.r ho (by decide) hg, own_other hS.m.l.c ho (by decide) hg⟩⟩, hS.h.other ho (by decide) hg, hS.good, hS.sta⟩
theorem Sc.apart {W W' : World} {g base e size n : Nat} {E : Pure.Env} {C : Pure.Cfg} {v : Value} {xs : List Value} (h : Sc W g E C) (ho : W.ownsRow base e size v n xs) (he : 113 ≠ e) (hg : W.grownBy W' (some g)) : W'.ownsRow base e size v n xs := by
  obtain ⟨f, ve, vr, vc, vh, b, hb, hS⟩ := h
  exact own_apart ho hS.m.blk he hg

def envF (p : Pure.Prg) (m d : Int) (l : List ByteArray) : Pure.Env := (envK p m d l l.length).on noBytes true

/-- all tokens, and the last error -/
def RetTold (g : Nat) (p : Pure.Prg) (m d : Int) (l : List ByteArray) (w : World) (e : Ending) (w' : World) : Prop :=
  ∃ D vo, Pure.Runs (envF p m d l) (cfg0 p) D ∧ e = .returned (.tuple #[vo, .int .i64 D.err]) ∧ w'.ownsRow w.heap.size 90 5 vo D.toks.length (tokCells D.toks) ∧ Sc w' g (envF p m d l) D ∧ w.grownBy w' (some g)

/-- what is carried through told -/
structure Tld (w : World) (g : Nat) (p : Pure.Prg) (E : Pure.Env) (C : Pure.Cfg) (vs vo : Value) (l : List ByteArray) (T : List Pure.Tok) (W : World) : Prop where
  r : Pure.Rch E (cfg0 p) C
  sc : Sc W g E C
  str : W.ownsRow 0 9 1 vs l.length (strCells l)
  own : W.ownsRow w.heap.size 90 5 vo T.length (tokCells T)
  gr : w.grownBy W (some g)

theorem Tld.fed {w : World} {g : Nat} {p : Pure.Prg} {E E' : Pure.Env} {C D : Pure.Cfg} {vs vo : Value} {l : List ByteArray} {T : List Pure.Tok} {W W' : World} (t : Tld w g p E C vs vo l T W) (hr : Pure.Rch E' (cfg0 p) D) (hS : Sc W' g E' D) (hg : W.grownBy W' (some g)) : Tld w g p E' D vs vo l T W' :=
  ⟨hr, hS, t.sc.apart t.str (by decide) hg, t.sc.apart t.own (by decide) hg, Lib.grownBy_trans t.gr hg⟩
theorem Tld.more {w : World} {g : Nat} {p : Pure.Prg} {E : Pure.Env} {C : Pure.Cfg} {vs vo vo' : Value} {l : List ByteArray} {T T' : List Pure.Tok} {W W' : World} (t : Tld w g p E C vs vo l T W) (hg : W.grownBy W' vo.ownBlock) (ho : W'.ownsRow w.heap.size 90 5 vo' T'.length (tokCells T')) : Tld w g p E C vs vo' l T' W' := by
  refine ⟨t.r, t.sc.other t.own hg, own_other t.str t.own (by decide) hg, ho, ?_⟩
  have s1 := t.gr.size
  refine ⟨hg.1.trans t.gr.1, hg.2.trans t.gr.2, hg.3.trans t.gr.3, Nat.le_trans t.gr.size hg.size, fun j hj hne => ?_⟩
  rw [hg.block j (by omega) ?_]
  · exact t.gr.block j hj hne
  · intro e
    have := (World.ownsRow.lt t.own j e.symm).1
    omega

theorem tokCells_app (a b : List Pure.Tok) : tokCells (a ++ b) = tokCells a ++ tokCells b := by simp [tokCells]
theorem tokCells_len (a : List Pure.Tok) : (tokCells a).length = a.length * 5 := by
  induction a with
  | nil => rfl
  | cons x r ih => unfold tokCells at ih ⊢; rw [List.flatMap_cons, List.length_append, ih, List.length_cons]; simp; omega
theorem one_toks (a : List Pure.Tok) : ∀ u ∈ tokCells a, u.oneCell' = true := by
  intro u hu
  unfold tokCells at hu
  rw [List.mem_flatMap] at hu
  obtain ⟨t, _, hu⟩ := hu
  simp at hu
  rcases hu with rfl | rfl | rfl | rfl | rfl <;> rfl

/-- a row that came out: nothing, or its cells -/
theorem own_cases {w : World} {base n : Nat} {v : Value} {T : List Pure.Tok} (h : w.ownsRow base 90 5 v n (tokCells T)) : (v = .slice none 0 0 ∧ T = []) ∨ ∃ b cap, v = .slice (some ⟨b, 0, none⟩) n cap ∧ n = T.length ∧ ∀ j u, (tokCells T)[j]? = some u → w.cell? ((⟨b, 0, none⟩ : Addr).add j) = some u := by
  have hl := h.1
  rw [tokCells_len] at hl
  rcases h.2 with ⟨rfl, h0⟩ | ⟨b, cap, cur, rfl, _⟩
  · exact .inl ⟨rfl, List.eq_nil_of_length_eq_zero (by omega)⟩
  · exact .inr ⟨b, cap, rfl, by omega, fun j u hu => h.cells (g := b) rfl j u hu⟩

set_option maxRecDepth 100000 in
set_option maxHeartbeats 4000000 in
theorem told_any (g : Nat) (p : Pure.Prg) (m d : Int) (vs : Value) (l : List ByteArray) (w : World) (hSc : Sc w g (envK p m d l 0) (cfg0 p)) (hstr : w.ownsRow 0 9 1 vs l.length (strCells l)) (hsum : sumN l l.length ≤ 274877906944) (hl : l.length ≤ 1099511627776) :
    Calls Try.prog 22 #[.pointer (some ⟨g, 0, none⟩), vs] w (RetTold g p m d l w) := by
  obtain ⟨i0, hi, hz0, hz1, hz2⟩ := info_parts Try.info90
  obtain ⟨f0, gd0, st0⟩ := hSc.good
  have GD : Hid (∀ k, Pure.Good (envK p m d l k) f0 ∧ Pure.Sta (envK p m d l k) f0 (cfg0 p)) := fun k => by
    refine ⟨⟨gd0.right, gd0.most, gd0.depth, gd0.f0, gd0.f1⟩, ?_⟩
    induction k with
    | zero => exact st0
    | succ k ih => exact ih.on (sg l k) false
  have T0 : Hid (Tld w g p (envK p m d l 0) (cfg0 p) vs (.slice none 0 0) l [] w) := ⟨.refl _, hSc, hstr, World.ownsRow_nil _ _ _ _, World.grownBy.refl _ _⟩
  obtain ⟨az, cz, rfl, hz1', hz2', -⟩ := own_read hstr
  unfold maxLen at hz2'
  have HSUM := hide hsum
  clear hSc hstr gd0 st0 hsum
  go_enter Try.func22, Try.ntmps22
  go_wp2_with fail
  go_loopg [6, 7] l.length (fun gk ov i wr => ∃ (k : Nat) (C : Pure.Cfg) (vo : Value), k ≤ l.length ∧ gk = l.length - k ∧ vo = ov ∧ i = .int .i64 k ∧ Tld w g p (envK p m d l k) C (.slice az l.length cz) vo l C.toks wr)
  case atStart => exact ⟨0, cfg0 p, _, Nat.zero_le _, rfl, rfl, rfl, T0.out⟩
  case round =>
    clear T0
    obtain ⟨k, C, vo, hkl, rfl, rfl, rfl, hT⟩ := hrel
    have HT := hide hT
    clear hT
    have sk' := HSUM.out
    have stC := HT.out.r.inv (GD.out k).1 (GD.out k).2
    have tl : (C.toks.length : Int) ≤ sumN l k := by
      have h1 := stC.toks
      have h2 := stC.within
      have h3 := stC.looked
      have e : (envK p m d l k).s.size = sumN l k := cat_size l k
      rw [e] at h2
      omega
    clear stC
    by_cases hlt : k < l.length
    · have sk1 := sum_le l (show k + 1 ≤ l.length by omega)
      have es : sumN l (k + 1) = sumN l k + (sg l k).size := rfl
      have hki : (k : Int) < (l.length : Int) := by omega
      obtain ⟨b, cap, hb', hn1, hn2⟩ := own_some HT.out.str (by omega)
      obtain ⟨rfl, rfl⟩ : az = some ⟨b, 0, none⟩ ∧ cz = cap := by simpa using hb'
      have g0 := own_cell HT.out.str (strCells_get l k hlt)
      have FD : Hid (∀ W, Sc W g (envK p m d l k) C → Calls Try.prog 29 #[.pointer (some ⟨g, 0, none⟩), .string (sg l k)] W (RetFed g (envK p m d l (k + 1)) C W)) := fun W hW => feed_any g (envK p m d l k) C (sg l k) W hW rfl (by show (catN l k).size + _ ≤ _; rw [cat_size]; omega)
      clear hb'
      go_wp2_with fail
      refine (FD.out _ HT.out.sc).mono ?_
      rintro e w4 ⟨D, T, vt, hr, ht, rfl, ho, hS4, hg4⟩
      have hrD : Pure.Rch (envK p m d l (k + 1)) (cfg0 p) D := (HT.out.r.on (GD.out k).1 (GD.out k).2 rfl (sg l k) false).trans hr.1
      have stD := hrD.inv (GD.out (k + 1)).1 (GD.out (k + 1)).2
      have tlD : (D.toks.length : Int) ≤ sumN l (k + 1) := by
        have h1 := stD.toks
        have h2 := stD.within
        have h3 := stD.looked
        have e : (envK p m d l (k + 1)).s.size = sumN l (k + 1) := cat_size l (k + 1)
        rw [e] at h2
        omega
      have tlT : C.toks.length + T.length ≤ 274877906944 := by rw [ht, List.length_append] at tlD; omega
      have T4 := hide (HT.out.fed hrD hS4 hg4)
      have HTK := hide ht
      rcases own_cases ho with ⟨rfl, hT0⟩ | ⟨bt', ct, rfl, hTn, hcells⟩
      · clear FD hr ht ho hS4 hg4 hrD stD tlD HT g0
        go_wp2_with (at_builtin; refine wpList_append_own_none rfl (.tmp 27) (.tmp 28) 54 rfl w.heap.size 90 i0 5 Try.underlying54 hi vo C.toks.length (tokCells C.toks) rfl T4.out.own rfl ?_)
        go_roundg (l.length - (k + 1))
        case measure => omega
        case rel =>
          have e5 : D.toks = C.toks := by rw [HTK.out, hT0, List.append_nil]
          exact ⟨k + 1, D, _, by omega, rfl, rfl, by go_num, by rw [e5]; exact T4.out⟩
      · clear FD hr ht ho hS4 hg4 hrD stD tlD HT g0
        go_wp2_with (at_builtin; refine wpList_append_own _ rfl (.tmp 27) (.tmp 28) 54 rfl w.heap.size 90 i0 (.agg #[.int .i64 0, .int .i64 0, .int .i64 0, .int .i64 0, .int .i64 0]) 5 40 Try.underlying54 hi hz0 hz1 hz2 rfl (by decide) vo C.toks.length (tokCells C.toks) rfl T4.out.own ⟨bt', 0, none⟩ T.length ct (tokCells T) rfl (tokCells_len T) hcells (one_toks T) (by unfold maxLen; omega) (by omega) T4.out.gr.size ?_; intro v2 w5 hown2 hgrow2 _)
        have T5 : Hid (Tld w g p (envK p m d l (k + 1)) D (.slice (some ⟨b, 0, none⟩) l.length cz) v2 l D.toks w5) := by
          show Tld _ _ _ _ _ _ _ _ _ _
          rw [HTK.out]
          exact T4.out.more hgrow2 (by rw [tokCells_app, List.length_append]; exact hown2)
        clear hown2 hgrow2 hcells T4
        go_roundg (l.length - (k + 1))
        case measure => omega
        case rel => exact ⟨k + 1, D, _, by omega, rfl, rfl, by go_num, T5.out⟩
    · have hkl' : k = l.length := by omega
      subst hkl'
      have FN : Hid (∀ W, Sc W g (envK p m d l l.length) C → Calls Try.prog 32 #[.pointer (some ⟨g, 0, none⟩)] W (RetFed g (envF p m d l) C W)) := fun W hW => finish_any g _ C W hW rfl (by show (catN l _).size ≤ _; rw [cat_size]; omega)
      go_wp2_with fail
      refine (FN.out _ HT.out.sc).mono ?_
      rintro e w4 ⟨D, T, vt, hr, ht, rfl, ho, hS4, hg4⟩
      have hrD : Pure.Rch (envF p m d l) (cfg0 p) D := (HT.out.r.on (GD.out l.length).1 (GD.out l.length).2 rfl noBytes true).trans hr.1
      have RUN : Hid (Pure.Runs (envF p m d l) (cfg0 p) D) := ⟨hrD, hr.2⟩
      have stD := hrD.inv ((GD.out l.length).1.on noBytes true) ((GD.out l.length).2.on noBytes true)
      have tlD : (D.toks.length : Int) ≤ sumN l l.length := by
        have h1 := stD.toks
        have h2 := stD.within
        have h3 := stD.looked
        have e : ((envK p m d l l.length).on noBytes true).s.size = sumN l l.length := by rw [Pure.on_size]; show (catN l _).size + 0 = _; rw [cat_size, Nat.add_zero]
        rw [e] at h2
        omega
      have tlT : C.toks.length + T.length ≤ 274877906944 := by rw [ht, List.length_append] at tlD; omega
      have T4 := hide (HT.out.fed hrD hS4 hg4)
      have HTK := hide ht
      rcases own_cases ho with ⟨rfl, hT0⟩ | ⟨bt', ct, rfl, hTn, hcells⟩
      · clear FN hr ht ho hS4 hg4 hrD stD tlD HT
        go_wp2_with (at_builtin; refine wpList_append_own_none rfl (.tmp 35) (.tmp 36) 54 rfl w.heap.size 90 i0 5 Try.underlying54 hi vo C.toks.length (tokCells C.toks) rfl T4.out.own rfl ?_)
        go_ret2
        have e5 : D.toks = C.toks := by rw [HTK.out, hT0, List.append_nil]
        exact ⟨D, _, RUN.out, rfl, by rw [e5]; exact T4.out.own, T4.out.sc, T4.out.gr⟩
      · clear FN hr ht ho hS4 hg4 hrD stD tlD HT
        go_wp2_with (at_builtin; refine wpList_append_own _ rfl (.tmp 35) (.tmp 36) 54 rfl w.heap.size 90 i0 (.agg #[.int .i64 0, .int .i64 0, .int .i64 0, .int .i64 0, .int .i64 0]) 5 40 Try.underlying54 hi hz0 hz1 hz2 rfl (by decide) vo C.toks.length (tokCells C.toks) rfl T4.out.own ⟨bt', 0, none⟩ T.length ct (tokCells T) rfl (tokCells_len T) hcells (one_toks T) (by unfold maxLen; omega) (by omega) T4.out.gr.size ?_; intro v2 w5 hown2 hgrow2 _)
        have T5 : Tld w g p (envF p m d l) D (.slice az l.length cz) v2 l D.toks w5 := by
          rw [HTK.out]
          exact T4.out.more hgrow2 (by rw [tokCells_app, List.length_append]; exact hown2)
        go_ret2
        exact ⟨D, _, RUN.out, rfl, T5.own, T5.sc, T5.gr⟩

end Go.Proofs.Ytmccnmgaoppogaa

namespace Go.Proofs.Ytmccnmgaoppogaa
open Go.RowKit

def singleP : Pure.Prg := ⟨[0], [⟨1, 0, 0⟩], [⟨2, 0, 0, 0⟩, ⟨1, 0, 0, 0⟩, ⟨5, 0, 0, 0⟩]⟩

theorem single_right : Pure.RightP singleP := by
  have e0 : ∀ i, i < 1 → i = 0 := fun i h => by omega
  have cs : ∀ i, i < 3 → i = 0 ∨ i = 1 ∨ i = 2 := fun i h => by omega
  refine ⟨⟨⟨by decide, by decide⟩, fun i hi => ?_⟩, ⟨⟨by decide, by decide⟩, fun i hi => ?_⟩, ⟨⟨by decide, by decide⟩, fun i hi => ?_, .inr rfl⟩, fun i => 2 - i, fun i hi j hj => ?_⟩
  · have := e0 i hi; subst this; exact ⟨Int.le_refl _, by decide⟩
  · have := e0 i hi; subst this; exact ⟨.inr rfl, ⟨by decide, by decide⟩, ⟨by decide, by decide⟩, .inr (.inr rfl)⟩
  · rcases cs i hi with h | h | h
    · subst h; exact .inr (.inl ⟨.inl rfl, rfl, rfl, rfl⟩)
    · subst h; exact .inl ⟨rfl, Int.le_refl _, by decide, rfl, rfl⟩
    · subst h; exact .inr (.inl ⟨.inr rfl, rfl, rfl, rfl⟩)
  · rcases cs i hi with h | h | h
    · subst h; simp [Pure.succ, Pure.fst, Pure.snd, singleP] at hj
    · subst h; simp [Pure.succ, Pure.fst, Pure.snd, singleP] at hj; subst hj; show 2 - 2 < 2 - 1; omega
    · subst h; simp [Pure.succ, Pure.fst, Pure.snd, singleP] at hj

def toksS (s : ByteArray) (i : Nat) : List Pure.Tok := (List.range i).map (fun (j : Nat) => ⟨0, (j : Int), 1, (Pure.adv s 0 j (1, 1)).1, (Pure.adv s 0 j (1, 1)).2⟩)
def cfgS (s : ByteArray) (i : Nat) : Pure.Cfg := ⟨i, (Pure.adv s 0 i (1, 1)).1, (Pure.adv s 0 i (1, 1)).2, 0, List.replicate 8 0, 0, 3 * (i : Int), 0, 0, 0, 0, 0, toksS s i, 0⟩

theorem cfgS_zero (s : ByteArray) : cfgS s 0 = cfg0 singleP := rfl

theorem single_step (E : Pure.Env) (hp : E.p = singleP) (hm : E.most = 1) (i : Nat) (hi : i < E.s.size) : Pure.Rch E (cfgS E.s i) (cfgS E.s (i + 1)) := by
  have m1 : Pure.mic E (cfgS E.s i) = some { cfgS E.s i with steps := 3 * (i : Int) + 1, ins := 1, c := bt E.s i, looked := 1 } := by
    unfold Pure.mic
    rw [if_neg (by show ¬ ((0 : Int) ≠ 0 ∨ (E.s.size : Int) ≤ (i : Int)); omega)]
    have hl : Pure.look E (cfgS E.s i) = .go { cfgS E.s i with steps := 3 * (i : Int) + 1, ins := 1, c := bt E.s i, looked := 1 } := by
      unfold Pure.look
      rw [hp, hm]
      have hx : Pure.cg singleP.code (cfgS E.s i).ins.toNat = ⟨2, 0, 0, 0⟩ := rfl
      rw [hx]
      simp only
      rw [if_neg (by decide), if_pos True.intro, if_neg (by show ¬ (E.s.size : Int) ≤ (i : Int) + 0; omega), if_neg (by show ¬ (1 : Int) ≤ 0; omega)]
      have hb : ((cfgS E.s i).pos + (cfgS E.s i).looked).toNat = i := by show ((i : Int) + 0).toNat = i; omega
      rw [hb]
      rfl
    rw [hl]
  have m2 : Pure.mic E { cfgS E.s i with steps := 3 * (i : Int) + 1, ins := 1, c := bt E.s i, looked := 1 } = some { cfgS E.s i with steps := 3 * (i : Int) + 2, ins := 2, c := bt E.s i, looked := 1, rule := 0, marked := 1 } := by
    unfold Pure.mic
    rw [if_neg (by show ¬ ((0 : Int) ≠ 0 ∨ (E.s.size : Int) ≤ (i : Int)); omega)]
    have hl : Pure.look E { cfgS E.s i with steps := 3 * (i : Int) + 1, ins := 1, c := bt E.s i, looked := 1 } = .go { cfgS E.s i with steps := 3 * (i : Int) + 2, ins := 2, c := bt E.s i, looked := 1, rule := 0, marked := 1 } := by
      unfold Pure.look
      rw [hp]
      have hx : Pure.cg singleP.code (1 : Int).toNat = ⟨1, 0, 0, 0⟩ := rfl
      simp only
      rw [hx]
      simp only
      rw [if_pos True.intro, if_pos (by decide)]
      have e1 : 3 * (i : Int) + 1 + 1 = 3 * (i : Int) + 2 := by omega
      rw [e1]
      rfl
    rw [hl]
  have m3 : Pure.mic E { cfgS E.s i with steps := 3 * (i : Int) + 2, ins := 2, c := bt E.s i, looked := 1, rule := 0, marked := 1 } = some (cfgS E.s (i + 1)) := by
    unfold Pure.mic
    rw [if_neg (by show ¬ ((0 : Int) ≠ 0 ∨ (E.s.size : Int) ≤ (i : Int)); omega)]
    have hl : Pure.look E { cfgS E.s i with steps := 3 * (i : Int) + 2, ins := 2, c := bt E.s i, looked := 1, rule := 0, marked := 1 } = .stop { cfgS E.s i with steps := 3 * (i : Int) + 3, ins := 3, c := bt E.s i, looked := 1, rule := 0, marked := 1 } 0 := by
      unfold Pure.look
      rw [hp]
      have hx : Pure.cg singleP.code (2 : Int).toNat = ⟨5, 0, 0, 0⟩ := rfl
      simp only
      rw [hx]
      simp only
      rw [if_neg (by decide), if_neg (by decide), if_neg (by decide), if_neg (by decide)]
      have e1 : 3 * (i : Int) + 2 + 1 = 3 * (i : Int) + 3 := by omega
      rw [e1]
      rfl
    rw [hl]
    have ht : Pure.take E { cfgS E.s i with steps := 3 * (i : Int) + 3, ins := 3, c := bt E.s i, looked := 1, rule := 0, marked := 1 } 0 = cfgS E.s (i + 1) := by
      unfold Pure.take
      rw [if_neg (by decide), hp]
      have hw : Pure.wrong singleP E.depth { cfgS E.s i with steps := 3 * (i : Int) + 3, ins := 3, c := bt E.s i, looked := 1, rule := 0, marked := 1 } = 0 := by
        unfold Pure.wrong
        rw [if_neg (by show ¬ ((1 : Int) = 0); decide), if_neg (fun h => absurd (show (0 : Int) = 2 from h.1) (by decide)), if_neg (fun h => absurd (show (0 : Int) = 3 from h.1) (by decide))]
      rw [if_neg (by rw [hw]; decide)]
      have ha : Pure.adv E.s i 1 ((Pure.adv E.s 0 i (1, 1)).1, (Pure.adv E.s 0 i (1, 1)).2) = Pure.adv E.s 0 (i + 1) (1, 1) := by
        simp only [Pure.adv, Nat.zero_add, Nat.add_zero]
      have htk : toksS E.s (i + 1) = toksS E.s i ++ [⟨0, (i : Int), 1, (Pure.adv E.s 0 i (1, 1)).1, (Pure.adv E.s 0 i (1, 1)).2⟩] := by
        unfold toksS
        rw [List.range_succ, List.map_append]
        rfl
      unfold Pure.took cfgS
      simp only
      have e2 : ((i : Int)).toNat = i := by omega
      have e3 : (1 : Int).toNat = 1 := rfl
      rw [e2, e3, ha, htk]
      have e4 : (i : Int) + 1 = ((i + 1 : Nat) : Int) := by omega
      have e5 : 3 * (i : Int) + 3 = 3 * ((i + 1 : Nat) : Int) := by omega
      rw [e4, e5]
      rfl
    show some (Pure.take E _ 0) = _
    rw [ht]
  exact .step (.step (.step (.refl _) m1) m2) m3

theorem single_runs (E : Pure.Env) (hp : E.p = singleP) (hm : E.most = 1) {D : Pure.Cfg} (h : Pure.Runs E (cfg0 singleP) D) : D = cfgS E.s E.s.size := by
  have key : ∀ i, i ≤ E.s.size → Pure.Rch E (cfg0 singleP) (cfgS E.s i) := by
    intro i
    induction i with
    | zero => intro _; rw [cfgS_zero]; exact .refl _
    | succ i ih => intro hi; exact (ih (by omega)).trans (single_step E hp hm i (by omega))
  have hn : Pure.mic E (cfgS E.s E.s.size) = none := by
    unfold Pure.mic
    rw [if_pos (.inr (by show (E.s.size : Int) ≤ (E.s.size : Int); omega))]
  exact h.same ⟨key _ (Nat.le_refl _), hn⟩

end Go.Proofs.Ytmccnmgaoppogaa

namespace Go.Proofs.Ytmccnmgaoppogaa
open Go.RowKit

def RetSingle (w : World) (e : Ending) (w' : World) : Prop := ∃ ve vr vc, e = .returned (.agg #[ve, vr, vc]) ∧ Below w.heap.size w w' ∧ Ints w' ve singleP.ents ∧ Rules w' vr singleP.rules ∧ Code w' vc singleP.code

theorem four_blocks (w : World) (o0 : Obj) (t1 t2 t3 : TypeId) (c1 c2 c3 : List Value) :
    Blk ((((w.alloc o0).alloc (.cells c1.toArray t1)).alloc (.cells c2.toArray t2)).alloc (.cells c3.toArray t3)) (w.heap.size + 1) t1 c1 ∧
    Blk ((((w.alloc o0).alloc (.cells c1.toArray t1)).alloc (.cells c2.toArray t2)).alloc (.cells c3.toArray t3)) (w.heap.size + 2) t2 c2 ∧
    Blk ((((w.alloc o0).alloc (.cells c1.toArray t1)).alloc (.cells c2.toArray t2)).alloc (.cells c3.toArray t3)) (w.heap.size + 3) t3 c3 := by
  have h1 := heap_alloc_new (w.alloc o0) (.cells c1.toArray t1)
  rw [World.size_alloc] at h1
  have h2 := heap_alloc_new ((w.alloc o0).alloc (.cells c1.toArray t1)) (.cells c2.toArray t2)
  rw [World.size_alloc, World.size_alloc] at h2
  have h3 := heap_alloc_new (((w.alloc o0).alloc (.cells c1.toArray t1)).alloc (.cells c2.toArray t2)) (.cells c3.toArray t3)
  rw [World.size_alloc, World.size_alloc, World.size_alloc] at h3
  exact ⟨blk_alloc (blk_alloc h1 _) _, blk_alloc h2 _, h3⟩

set_option maxRecDepth 100000 in
set_option maxHeartbeats 2000000 in
theorem single_any (w : World) : Calls Try.prog 57 #[] w (RetSingle w) := by
  go_enter Try.func57, Try.ntmps57
  go_wp2
  refine bodyPost_ret (v := .agg #[.slice (some ⟨w.heap.size + 1, 0, none⟩) 1 1, .slice (some ⟨w.heap.size + 2, 0, none⟩) 1 1, .slice (some ⟨w.heap.size + 3, 0, none⟩) 3 3]) (by simp [results, Try.results57, go_sem]) rfl ⟨_, _, _, rfl, ?_, ?_, ?_, ?_⟩
  · exact ((((Below.refl _ _).alloc (Nat.le_refl _) _).alloc (by simp) _).alloc (by simp; omega) _).alloc (by simp; omega) _
  · have k := (four_blocks w (.cells #[.slice (some ⟨w.heap.size + 1, 0, none⟩) 1 1, .slice (some ⟨w.heap.size + 1 + 1, 0, none⟩) 1 1, .slice (some ⟨w.heap.size + 1 + 1 + 1, 0, none⟩) 3 3] 26) 3 66 103 [.int .i64 0] [.int .i64 1, .int .i64 0, .int .i64 0] [.int .i64 2, .int .i64 0, .int .i64 0, .int .i64 0, .int .i64 1, .int .i64 0, .int .i64 0, .int .i64 0, .int .i64 5, .int .i64 0, .int .i64 0, .int .i64 0]).1
    refine ⟨_, _, rfl, Nat.le_refl _, by decide, fun i hi => ⟨w.heap.size + 1, 0, rfl, by simp, ?_⟩⟩
    obtain rfl : i = 0 := by simp [singleP] at hi; omega
    exact blk_cell (j := 0) k rfl
  · have k := (four_blocks w (.cells #[.slice (some ⟨w.heap.size + 1, 0, none⟩) 1 1, .slice (some ⟨w.heap.size + 1 + 1, 0, none⟩) 1 1, .slice (some ⟨w.heap.size + 1 + 1 + 1, 0, none⟩) 3 3] 26) 3 66 103 [.int .i64 0] [.int .i64 1, .int .i64 0, .int .i64 0] [.int .i64 2, .int .i64 0, .int .i64 0, .int .i64 0, .int .i64 1, .int .i64 0, .int .i64 0, .int .i64 0, .int .i64 5, .int .i64 0, .int .i64 0, .int .i64 0]).2.1
    refine ⟨_, _, rfl, Nat.le_refl _, by decide, fun i hi => ⟨w.heap.size + 2, 0, rfl, by simp, ?_⟩⟩
    obtain rfl : i = 0 := by simp [singleP] at hi; omega
    exact ⟨blk_cell (j := 0) k rfl, blk_cell (j := 1) k rfl, blk_cell (j := 2) k rfl⟩
  · have k := (four_blocks w (.cells #[.slice (some ⟨w.heap.size + 1, 0, none⟩) 1 1, .slice (some ⟨w.heap.size + 1 + 1, 0, none⟩) 1 1, .slice (some ⟨w.heap.size + 1 + 1 + 1, 0, none⟩) 3 3] 26) 3 66 103 [.int .i64 0] [.int .i64 1, .int .i64 0, .int .i64 0] [.int .i64 2, .int .i64 0, .int .i64 0, .int .i64 0, .int .i64 1, .int .i64 0, .int .i64 0, .int .i64 0, .int .i64 5, .int .i64 0, .int .i64 0, .int .i64 0]).2.2
    refine ⟨_, _, rfl, Nat.le_refl _, by decide, fun i hi => ⟨w.heap.size + 3, 0, rfl, by simp, ?_⟩⟩
    have h3 : i = 0 ∨ i = 1 ∨ i = 2 := by simp [singleP] at hi; omega
    rcases h3 with rfl | rfl | rfl
    · exact ⟨blk_cell (j := 0) k rfl, blk_cell (j := 1) k rfl, blk_cell (j := 2) k rfl, blk_cell (j := 3) k rfl⟩
    · exact ⟨blk_cell (j := 4) k rfl, blk_cell (j := 5) k rfl, blk_cell (j := 6) k rfl, blk_cell (j := 7) k rfl⟩
    · exact ⟨blk_cell (j := 8) k rfl, blk_cell (j := 9) k rfl, blk_cell (j := 10) k rfl, blk_cell (j := 11) k rfl⟩

theorem tokCells_get (l : List Pure.Tok) (t0 : Pure.Tok) : ∀ (i : Nat), i < l.length → (tokCells l)[i * 5]? = some (.int .i64 (l.getD i t0).rule) ∧ (tokCells l)[i * 5 + 1]? = some (.int .i64 (l.getD i t0).pos) ∧ (tokCells l)[i * 5 + 2]? = some (.int .i64 (l.getD i t0).len) ∧ (tokCells l)[i * 5 + 3]? = some (.int .i64 (l.getD i t0).line) ∧ (tokCells l)[i * 5 + 4]? = some (.int .i64 (l.getD i t0).col) := by
  induction l with
  | nil => intro i h; simp at h
  | cons x r ih =>
    intro i h
    have c : tokCells (x :: r) = .int .i64 x.rule :: .int .i64 x.pos :: .int .i64 x.len :: .int .i64 x.line :: .int .i64 x.col :: tokCells r := by simp [tokCells]
    rw [c]
    cases i with
    | zero => simp
    | succ i =>
      have := ih i (by simpa using h)
      have e : ∀ j, (i + 1) * 5 + j = (i * 5 + j) + 1 + 1 + 1 + 1 + 1 := fun j => by omega
      have e' : (i + 1) * 5 = (i * 5) + 1 + 1 + 1 + 1 + 1 := by omega
      rw [e, e, e, e, e']
      simpa using this

def tok0 : Pure.Tok := ⟨0, 0, 0, 0, 0⟩

theorem own_string (W : World) (s : ByteArray) : (W.alloc (.cells #[.string s] 9)).ownsRow 0 9 1 (.slice (some ⟨W.heap.size, 0, none⟩) 1 1) 1 (strCells [s]) :=
  ⟨rfl, .inr ⟨W.heap.size, 1, #[.string s], rfl, Nat.zero_le _, heap_alloc_new W _, Nat.le_refl _, by unfold maxLen; omega, rfl, rfl⟩⟩

set_option maxRecDepth 100000 in
set_option maxHeartbeats 4000000 in
theorem every_any (s : ByteArray) (w : World) (hs : s.size ≤ 274877906944) : Calls Try.prog 27 #[.string s] w (RetT w) := by
  have SI := hide (single_any w)
  have HS := hide hs
  clear hs
  go_enter Try.func27, Try.ntmps27
  go_wp2_with fail
  refine SI.out.mono ?_
  clear SI
  rintro e w1 ⟨ve, vr, vc, rfl, hB1, hE, hR, hC⟩
  have BG := hide (begun_any ve vr vc singleP 1 0 w1 hE hR hC single_right (by omega) (by omega))
  have B1 := hide hB1
  clear hE hR hC hB1
  go_wp2_with fail
  refine BG.out.mono ?_
  clear BG
  rintro e w2 ⟨g, rfl, hgn, hB2, hSc⟩
  have B3 := hide ((B1.out.trans (hB2.mono B1.out.size)).alloc (by have := hB2.size; have := B1.out.size; omega) (.cells #[.string s] 9))
  have gn : Hid (w.heap.size ≤ g) := Nat.le_trans B1.out.size hgn
  have TD := hide (told_any g singleP 1 0 (.slice (some ⟨w2.heap.size, 0, none⟩) 1 1) [s] (w2.alloc (.cells #[.string s] 9)) (hSc.below ((Below.refl _ _).alloc (Nat.le_refl _) _)) (own_string w2 s) (by show 0 + s.size ≤ _; have := HS.out; omega) (by show 1 ≤ _; omega))
  clear hB2 hSc hgn B1
  go_wp2_with fail
  refine TD.out.mono ?_
  clear TD
  rintro e w4 ⟨D, vo, hr, rfl, ho, hS4, hg4⟩
  have esz : (envF singleP 1 0 [s]).s.size = s.size := by
    unfold envF
    rw [Pure.on_size]
    show (catN [s] 1).size + 0 = _
    rw [cat_size]
    show 0 + s.size + 0 = _
    omega
  have hD := single_runs (envF singleP 1 0 [s]) rfl rfl hr
  have d1 : D.err = 0 := by rw [hD]; rfl
  have d2 : D.toks = toksS (envF singleP 1 0 [s]).s s.size := by rw [hD, esz]; rfl
  have d3 : D.toks.length = s.size := by rw [d2]; simp [toksS]
  have dg : Hid (∀ i, i < s.size → (D.toks.getD i tok0).rule = 0 ∧ (D.toks.getD i tok0).pos = (i : Int) ∧ (D.toks.getD i tok0).len = 1) := fun i hi => by
    rw [d2]
    simp [toksS, List.getD_eq_getElem?_getD, hi]
  have FIN := hide (B3.out.grown hg4 B3.out.size (fun k hk => by cases hk; exact gn.out))
  rw [d1]
  have TG : Hid (∀ i, i < s.size → ∃ b cap, vo = .slice (some ⟨b, 0, none⟩) s.size cap ∧ w4.cell? ⟨b, i * 5, none⟩ = some (.int .i64 0) ∧ w4.cell? ⟨b, i * 5 + 1, none⟩ = some (.int .i64 i) ∧ w4.cell? ⟨b, i * 5 + 2, none⟩ = some (.int .i64 1) ∧ w4.cell? ⟨b, i * 5 + 3, none⟩ = some (.int .i64 (D.toks.getD i tok0).line) ∧ w4.cell? ⟨b, i * 5 + 4, none⟩ = some (.int .i64 (D.toks.getD i tok0).col)) := fun i hi => by
    obtain ⟨b, cap, rfl, _, _⟩ := own_some ho (by omega)
    have q := tokCells_get D.toks tok0 i (by omega)
    have r := dg.out i hi
    rw [r.1, r.2.1, r.2.2] at q
    exact ⟨b, cap, by rw [d3], own_cell ho q.1, own_cell ho q.2.1, own_cell ho q.2.2.1, own_cell ho q.2.2.2.1, own_cell ho q.2.2.2.2⟩
  obtain ⟨ao, co, rfl, ho1, ho2, -⟩ := own_read ho
  unfold maxLen at ho2
  have D3 := hide d3
  clear hr ho hS4 hg4 esz hD d1 d2 dg B3 d3
  rw [D3.out] at ho1 ⊢
  have TG' : Hid (∀ i, i < s.size → ∃ b, ao = some ⟨b, 0, none⟩ ∧ w4.cell? ⟨b, i * 5, none⟩ = some (.int .i64 0) ∧ w4.cell? ⟨b, i * 5 + 1, none⟩ = some (.int .i64 i) ∧ w4.cell? ⟨b, i * 5 + 2, none⟩ = some (.int .i64 1) ∧ (∃ x, w4.cell? ⟨b, i * 5 + 3, none⟩ = some (.int .i64 x)) ∧ ∃ x, w4.cell? ⟨b, i * 5 + 4, none⟩ = some (.int .i64 x)) := fun i hi => by
    obtain ⟨b, cap, hv, h1, h2, h3, h4, h5⟩ := TG.out i hi
    simp only [Value.slice.injEq] at hv
    exact ⟨b, hv.1, h1, h2, h3, ⟨_, h4⟩, ⟨_, h5⟩⟩
  clear TG D3
  have hsz := HS.out
  have e1 : ((s.size : Int) != (s.size : Int)) = false := by simp
  go_wp2_with fail
  go_loopw [6] (fun i wr => ∃ k : Nat, k ≤ s.size ∧ i = .int .i64 k ∧ wr = w4) (fun i _ => s.size - (intOf i).toNat)
  case atStart => exact ⟨0, Nat.zero_le _, rfl, rfl⟩
  case round =>
    obtain ⟨k, hk, rfl, rfl⟩ := hrel
    by_cases hlt : k < s.size
    · obtain ⟨b, rfl, c0, c1, c2, ⟨x3, c3⟩, ⟨x4, c4⟩⟩ := TG'.out k hlt
      have hki : (k : Int) < (s.size : Int) := by omega
      go_wp2
      go_roundw
      case rel => exact ⟨k + 1, by omega, by go_num, by first | trivial | rfl⟩
      case measure => simp [intOf]; omega
    · have hke : k = s.size := by omega
      subst hke
      go_wp2
      go_ret
      exact ⟨rfl, FIN.out⟩

end Go.Proofs.Ytmccnmgaoppogaa

namespace Go.Proofs.Ytmccnmgaoppogaa
open Go.RowKit

theorem Try.info9 : (Try.prog.info? 9).map (fun i => (i.zero, i.size, i.bytes)) = some (some (.string ⟨#[]⟩), 1, 16) := by kernel_rfl

set_option maxHeartbeats 400000 in
theorem pick_big (c n : Int) (w : World) (hc0 : -9223372036854775808 ≤ c) (hc : c ≤ 9223372036854775807) (hn : 0 < n) (hn2 : n ≤ 1099511627776) :
    Calls Try.prog 50 #[.int .i64 c, .int .i64 n] w fun e w' => e = .returned (.int .i64 (Pure.pk c n)) ∧ w' = w := by
  by_cases h : c < 0
  · have hp : Pure.pk c n = -(c + 1).tmod n := by
      unfold Pure.pk
      rw [if_pos h, ← Int.neg_tmod, Int.tmod_eq_emod_of_nonneg (by omega)]
    rw [hp]
    have hd : decide (c < 0) = true := by simpa using h
    go_enter Try.func50, Try.ntmps50
    go_wp2
    go_ret
    exact ⟨rfl, rfl⟩
  · have hp : Pure.pk c n = c % n := by unfold Pure.pk; rw [if_neg h]
    rw [hp]
    have hd : decide (c < 0) = false := by simpa using h
    go_enter Try.func50, Try.ntmps50
    go_wp2
    go_ret
    exact ⟨rfl, rfl⟩

theorem sg_left {l : List ByteArray} {x : ByteArray} {i : Nat} (h : i < l.length) : sg (l ++ [x]) i = sg l i := by
  simp [sg, List.getD_eq_getElem?_getD, List.getElem?_append_left h]
theorem sg_last (l : List ByteArray) (x : ByteArray) : sg (l ++ [x]) l.length = x := by simp [sg]
theorem cat_left {l : List ByteArray} {x : ByteArray} : ∀ (k : Nat), k ≤ l.length → catN (l ++ [x]) k = catN l k
  | 0, _ => rfl
  | k + 1, h => by rw [catN, catN, cat_left k (by omega), sg_left (by omega)]
theorem cat_snoc (l : List ByteArray) (x : ByteArray) : catN (l ++ [x]) (l ++ [x]).length = catN l l.length ++ x := by
  rw [List.length_append, List.length_singleton, catN, cat_left _ (Nat.le_refl _), sg_last]
theorem app_list (a b : ByteArray) : (a ++ b).data.toList = a.data.toList ++ b.data.toList := by simp
theorem cut_two (s : ByteArray) (n : Nat) (_h : n ≤ s.size) : s.extract 0 n ++ s.extract n s.size = s := by
  apply ByteArray.ext
  apply Array.toList_inj.1
  rw [app_list, extract_list, extract_list, List.drop_zero, Nat.sub_zero]
  have e2 : (s.data.toList.drop n).take (s.size - n) = s.data.toList.drop n := List.take_of_length_le (by simp)
  rw [e2]
  exact List.take_append_drop n _
theorem strCells_snoc (l : List ByteArray) (x : ByteArray) : strCells (l ++ [x]) = strCells l ++ [.string x] := by simp [strCells]

def RetPieces (s : ByteArray) (n : Nat) (w : World) (e : Ending) (w' : World) : Prop :=
  ∃ l vo, e = .returned vo ∧ w'.ownsRow w.heap.size 9 1 vo l.length (strCells l) ∧ catN l l.length = s ∧ l.length = n + 1 ∧ Below w.heap.size w w'

set_option maxRecDepth 100000 in
set_option maxHeartbeats 4000000 in
theorem pieces_any (s : ByteArray) (vc : Value) (cuts : List Int) (w : World) (hC : Ints w vc cuts) (rC : IntsR cuts) (hs : s.size ≤ 274877906944) (hl : cuts.length ≤ 274877906944) :
    Calls Try.prog 23 #[.string s, vc] w (RetPieces s cuts.length w) := by
  obtain ⟨i0, hi, hz0, hz1, hz2⟩ := info_parts Try.info9
  obtain ⟨ac, cc, rfl, hc1, hc2, hread⟩ := hC.read
  have RD := hide hread
  have RC := hide rC
  have HS := hide hs
  clear hC hread rC
  go_enter Try.func23, Try.ntmps23
  go_wp2_with fail
  go_loopg [0, 5, 6] cuts.length (fun gk iv ov i wr => ∃ (k : Nat) (rest : ByteArray) (l : List ByteArray) (vo : Value), k ≤ cuts.length ∧ gk = cuts.length - k ∧ iv = .string rest ∧ vo = ov ∧ i = .int .i64 k ∧ l.length = k ∧ catN l l.length ++ rest = s ∧ wr.ownsRow w.heap.size 9 1 vo l.length (strCells l) ∧ Below w.heap.size w wr)
  case atStart => exact ⟨0, s, [], _, Nat.zero_le _, rfl, rfl, rfl, rfl, rfl, by show noBytes ++ s = s; apply ByteArray.ext; simp [noBytes], World.ownsRow_nil _ _ _ _, Below.refl _ _⟩
  case round =>
    obtain ⟨k, rest, l, vo, hk, rfl, rfl, rfl, rfl, hlk, hcat, ho, hbel⟩ := hrel
    have hrs : rest.size ≤ 274877906944 := by
      have := congrArg ByteArray.size hcat
      rw [ByteArray.size_append] at this
      omega
    have HO := hide (And.intro ho (And.intro hbel (And.intro hlk hcat)))
    have hbs := hbel.size
    clear ho hcat
    by_cases hlt : k < cuts.length
    · obtain ⟨b, off, rfl, hb, hc⟩ := RD.out k hlt
      have g0 := (hbel.cell (p := ⟨b, off + k, none⟩) hb).trans hc
      have r0 := RC.out k hlt
      have PK := hide (fun W => pick_big (Pure.ig cuts k) ((rest.size : Int) + 1) W r0.1 r0.2 (by omega) (by omega))
      have pb := Pure.pk_bd (Pure.ig cuts k) (n := (rest.size : Int) + 1) (by omega)
      generalize Pure.pk (Pure.ig cuts k) ((rest.size : Int) + 1) = z at *
      obtain ⟨n, hn⟩ := Int.eq_ofNat_of_zero_le pb.1
      subst hn
      have hki : (k : Int) < (cuts.length : Int) := by omega
      have hnr : n ≤ rest.size := by omega
      have hni : (n : Int) ≤ (rest.size : Int) := by omega
      clear hbel r0 hlk
      go_wp2_with fail
      refine (PK.out _).mono ?_
      rintro e w1 ⟨rfl, rfl⟩
      clear PK g0
      go_wp2_with (at_builtin; refine wpList_append_own _ rfl (.tmp 22) (.tmp 26) 57 rfl w.heap.size 9 i0 (.string ⟨#[]⟩) 1 16 Try.underlying57 hi hz0 hz1 hz2 rfl (by decide) vo l.length (strCells l) rfl (World.ownsRow.alloc HO.out.1 _) ⟨w1.heap.size, 0, none⟩ 1 1 [.string (rest.extract 0 n)] rfl rfl (cell_list3 rfl) (by intro u hu; simp at hu; subst hu; rfl) (by have := HO.out.2.2.1; unfold maxLen; omega) (by have := HO.out.2.2.1; omega) (by simp; omega) ?_; intro v2 w2 hown2 hgrow2 _)
      have B2 := hide ((HO.out.2.1.alloc hbs (.cells #[.string (rest.extract 0 n)] 9)).grown hgrow2 (by simp; omega) (fun j hj => (World.ownsRow.lt HO.out.1 j hj).1))
      have O2 : Hid (w2.ownsRow w.heap.size 9 1 v2 (l ++ [rest.extract 0 n]).length (strCells (l ++ [rest.extract 0 n]))) := by
        show World.ownsRow _ _ _ _ _ _ _
        rw [strCells_snoc, List.length_append, List.length_singleton]
        exact hown2
      clear hown2 hgrow2
      go_roundg (cuts.length - (k + 1))
      case measure => omega
      case rel =>
        refine ⟨k + 1, rest.extract n rest.size, l ++ [rest.extract 0 n], _, by omega, rfl, rfl, rfl, by go_num, by rw [List.length_append, List.length_singleton, HO.out.2.2.1], ?_, O2.out, B2.out⟩
        rw [cat_snoc, ByteArray.append_assoc, cut_two rest n hnr]
        exact HO.out.2.2.2
    · have hke : k = cuts.length := by omega
      subst hke
      clear hbel hlk
      go_wp2_with (at_builtin; refine wpList_append_own _ rfl (.tmp 31) (.tmp 33) 57 rfl w.heap.size 9 i0 (.string ⟨#[]⟩) 1 16 Try.underlying57 hi hz0 hz1 hz2 rfl (by decide) vo l.length (strCells l) rfl (World.ownsRow.alloc HO.out.1 _) ⟨wr.heap.size, 0, none⟩ 1 1 [.string rest] rfl rfl (cell_list3 rfl) (by intro u hu; simp at hu; subst hu; rfl) (by have := HO.out.2.2.1; unfold maxLen; omega) (by have := HO.out.2.2.1; omega) (by simp; omega) ?_; intro v2 w2 hown2 hgrow2 _)
      have B2 := (HO.out.2.1.alloc hbs (.cells #[.string rest] 9)).grown hgrow2 (by simp; omega) (fun j hj => (World.ownsRow.lt HO.out.1 j hj).1)
      have O2 : w2.ownsRow w.heap.size 9 1 v2 (l ++ [rest]).length (strCells (l ++ [rest])) := by
        rw [strCells_snoc, List.length_append, List.length_singleton]
        exact hown2
      go_ret
      exact ⟨l ++ [rest], _, rfl, O2, by rw [cat_snoc]; exact HO.out.2.2.2, by rw [List.length_append, List.length_singleton, HO.out.2.2.1], B2⟩

set_option maxRecDepth 100000 in
set_option maxHeartbeats 2000000 in
theorem sameTokens_eq (va vb : Value) (l : List Pure.Tok) (w : World) (ba bb : Nat) (ha : w.ownsRow ba 90 5 va l.length (tokCells l)) (hb : w.ownsRow bb 90 5 vb l.length (tokCells l)) :
    Calls Try.prog 25 #[va, vb] w (RetT w) := by
  have RA : Hid (∀ i, i < l.length → ∃ b cap, va = .slice (some ⟨b, 0, none⟩) l.length cap ∧ b < w.heap.size ∧ w.cell? ⟨b, i * 5, none⟩ = some (.int .i64 (l.getD i tok0).rule) ∧ w.cell? ⟨b, i * 5 + 1, none⟩ = some (.int .i64 (l.getD i tok0).pos) ∧ w.cell? ⟨b, i * 5 + 2, none⟩ = some (.int .i64 (l.getD i tok0).len) ∧ w.cell? ⟨b, i * 5 + 3, none⟩ = some (.int .i64 (l.getD i tok0).line) ∧ w.cell? ⟨b, i * 5 + 4, none⟩ = some (.int .i64 (l.getD i tok0).col)) := fun i hi => by
    obtain ⟨b, cap, rfl, _, _⟩ := own_some ha (by omega)
    have q := tokCells_get l tok0 i hi
    exact ⟨b, cap, rfl, (own_base ha).2, own_cell ha q.1, own_cell ha q.2.1, own_cell ha q.2.2.1, own_cell ha q.2.2.2.1, own_cell ha q.2.2.2.2⟩
  have RB : Hid (∀ i, i < l.length → ∃ b cap, vb = .slice (some ⟨b, 0, none⟩) l.length cap ∧ b < w.heap.size ∧ w.cell? ⟨b, i * 5, none⟩ = some (.int .i64 (l.getD i tok0).rule) ∧ w.cell? ⟨b, i * 5 + 1, none⟩ = some (.int .i64 (l.getD i tok0).pos) ∧ w.cell? ⟨b, i * 5 + 2, none⟩ = some (.int .i64 (l.getD i tok0).len) ∧ w.cell? ⟨b, i * 5 + 3, none⟩ = some (.int .i64 (l.getD i tok0).line) ∧ w.cell? ⟨b, i * 5 + 4, none⟩ = some (.int .i64 (l.getD i tok0).col)) := fun i hi => by
    obtain ⟨b, cap, rfl, _, _⟩ := own_some hb (by omega)
    have q := tokCells_get l tok0 i hi
    exact ⟨b, cap, rfl, (own_base hb).2, own_cell hb q.1, own_cell hb q.2.1, own_cell hb q.2.2.1, own_cell hb q.2.2.2.1, own_cell hb q.2.2.2.2⟩
  obtain ⟨aa, ca, rfl, ha1, ha2, -⟩ := own_read ha
  obtain ⟨ab, cb, rfl, hb1, hb2, -⟩ := own_read hb
  unfold maxLen at ha2 hb2
  clear ha hb
  go_enter Try.func25, Try.ntmps25
  go_wp2_with fail
  go_loopw [5] (fun i wr => ∃ k : Nat, k ≤ l.length ∧ i = .int .i64 k ∧ Below w.heap.size w wr) (fun i _ => l.length - (intOf i).toNat)
  case atStart => exact ⟨0, Nat.zero_le _, rfl, Below.refl _ _⟩
  case round =>
    obtain ⟨k, hk, rfl, hbel⟩ := hrel
    by_cases hlt : k < l.length
    · obtain ⟨xa, ya, hva, lta, e0, e1, e2, e3, e4⟩ := RA.out k hlt
      obtain ⟨xb, yb, hvb, ltb, f0, f1, f2, f3, f4⟩ := RB.out k hlt
      obtain ⟨rfl, rfl⟩ : aa = some ⟨xa, 0, none⟩ ∧ ca = ya := by simpa using hva
      obtain ⟨rfl, rfl⟩ : ab = some ⟨xb, 0, none⟩ ∧ cb = yb := by simpa using hvb
      have g0 := (hbel.cell (p := ⟨xa, k * 5, none⟩) lta).trans e0
      have g1 := (hbel.cell (p := ⟨xa, k * 5 + 1, none⟩) lta).trans e1
      have g2 := (hbel.cell (p := ⟨xa, k * 5 + 2, none⟩) lta).trans e2
      have g3 := (hbel.cell (p := ⟨xa, k * 5 + 3, none⟩) lta).trans e3
      have g4 := (hbel.cell (p := ⟨xa, k * 5 + 4, none⟩) lta).trans e4
      have h0 := (hbel.cell (p := ⟨xb, k * 5, none⟩) ltb).trans f0
      have h1 := (hbel.cell (p := ⟨xb, k * 5 + 1, none⟩) ltb).trans f1
      have h2 := (hbel.cell (p := ⟨xb, k * 5 + 2, none⟩) ltb).trans f2
      have h3 := (hbel.cell (p := ⟨xb, k * 5 + 3, none⟩) ltb).trans f3
      have h4 := (hbel.cell (p := ⟨xb, k * 5 + 4, none⟩) ltb).trans f4
      have hki : (k : Int) < (l.length : Int) := by omega
      clear e0 e1 e2 e3 e4 f0 f1 f2 f3 f4 RA RB hva hvb
      generalize (l.getD k tok0).rule = y0 at *
      generalize (l.getD k tok0).pos = y1 at *
      generalize (l.getD k tok0).len = y2 at *
      generalize (l.getD k tok0).line = y3 at *
      generalize (l.getD k tok0).col = y4 at *
      go_wp2_with fail
      go_quiet (fail)
      go_wp2
      go_roundw
      case rel => exact ⟨k + 1, by omega, by go_num, below_drewN hbel _⟩
      case measure => simp [intOf]; omega
    · go_wp2
      go_ret
      exact ⟨rfl, hbel⟩

end Go.Proofs.Ytmccnmgaoppogaa

namespace Go.Proofs.Ytmccnmgaoppogaa
open Go.RowKit

/-- another scanner is as it was -/
theorem Sc.beside {W W' : World} {gx gy : Nat} {Ex Ey : Pure.Env} {Cx Cy : Pure.Cfg} (hx : Sc W gx Ex Cx) (hy : Sc W gy Ey Cy) (ne : gx ≠ gy) (hg : W.grownBy W' (some gx)) : Sc W' gy Ey Cy := by
  obtain ⟨fx, xe, xr, xc, xh, bx, hbx, hX⟩ := hx
  obtain ⟨f, ve, vr, vc, vh, b, hb, hS⟩ := hy
  have hbk := hX.m.blk
  exact ⟨f, ve, vr, vc, vh, b, hb, ⟨blk_grown hS.m.blk hg (fun e => ne (by cases e; rfl)), ⟨own_apart hS.m.l.e hbk (by decide) hg, own_apart hS.m.l.r hbk (by decide) hg, own_apart hS.m.l.c hbk (by decide) hg⟩⟩, hS.h.on hbk (by decide) hg, hS.good, hS.sta⟩

theorem no_left (s : ByteArray) : noBytes ++ s = s := by apply ByteArray.ext; simp [noBytes]
theorem no_right (s : ByteArray) : s ++ noBytes = s := by apply ByteArray.ext; simp [noBytes]

theorem envF_eq (p : Pure.Prg) (m d : Int) (l : List ByteArray) (s : ByteArray) (h : catN l l.length = s) : envF p m d l = ⟨p, m, d, s, true⟩ := by
  have e : (envF p m d l).s = catN l l.length ++ noBytes := rfl
  rw [no_right, h] at e
  have : envF p m d l = ⟨p, m, d, (envF p m d l).s, true⟩ := rfl
  rw [this, e]

set_option maxRecDepth 100000 in
set_option maxHeartbeats 4000000 in
theorem split_any (ve vr vc vq : Value) (r : Pure.Prg) (most depth : Int) (s : ByteArray) (cuts : List Int) (w : World) (hE : Ints w ve r.ents) (hR : Rules w vr r.rules) (hC : Code w vc r.code) (rE : IntsR r.ents) (rR : RulesR r.rules) (rC : InsR r.code) (rm : Rng most) (rd : Rng depth) (hQ : Ints w vq cuts) (rQ : IntsR cuts) (hs : s.size ≤ 137438953472) (hl : cuts.length ≤ 137438953472) :
    Calls Try.prog 6 #[.agg #[ve, vr, vc], .int .i64 most, .int .i64 depth, .string s, vq] w (RetTW w) := by
  have P1 : Hid (∀ o, Calls Try.prog 14 #[.agg #[ve, vr, vc]] (w.alloc o) (RetShaped (w.alloc o))) := fun o => by
    have hb := (Below.refl w.heap.size w).alloc (Nat.le_refl _) o
    exact shaped_any ve vr vc r _ (hE.below hb) (hR.below hb) (hC.below hb) rE rR rC
  obtain ⟨ae, ce, rfl, he1, he2, -⟩ := hE.read
  obtain ⟨ar, cr, rfl, hr1, hr2, -⟩ := hR.read
  obtain ⟨ac, cc, rfl, hc1, hc2, -⟩ := hC.read
  have NU := hide (fun W => numbers_any most depth W rm rd)
  have mb := Pure.pk_bd most (n := 64) (by omega)
  have db := Pure.pk_bd depth (n := 9) (by omega)
  have hmm : 1 ≤ 1 + Pure.pk most 64 ∧ 1 + Pure.pk most 64 ≤ 64 := by omega
  have hdd : 0 ≤ Pure.pk depth 9 ∧ Pure.pk depth 9 ≤ 8 := by omega
  generalize 1 + Pure.pk most 64 = m at *
  generalize Pure.pk depth 9 = d at *
  have HMD := hide (And.intro hmm hdd)
  have PC : Hid (∀ W, Below w.heap.size w W → Calls Try.prog 23 #[.string s, vq] W (RetPieces s cuts.length W)) := fun W hb => pieces_any s vq cuts W (hQ.below hb) rQ (by omega) (by omega)
  have EV := hide (fun W => every_any s W (by omega))
  obtain ⟨aq, cq, rfl, hq1, hq2, -⟩ := hQ.read
  have HS := hide (And.intro hs hl)
  clear hE hR hC rE rR rC rm rd mb db hQ rQ hs hl
  go_enter Try.func6, Try.ntmps6
  go_wp2_with fail
  refine (P1.out _).mono ?_
  rintro e w1 ⟨p, hp, hlast, VE, VR, VC, rfl, hB1, oE, oR, oC⟩
  have hm := hp.1.1
  have hk := hp.2.1.1
  have hn := hp.2.2.1.1
  obtain ⟨gE, cE, rfl, hE1, hE2⟩ := own_some oE (by omega)
  obtain ⟨gR, cR, rfl, hR1, hR2⟩ := own_some oR (by omega)
  obtain ⟨gC, cC, rfl, hC1, hC2⟩ := own_some oC (by omega)
  have bel1 := bel1 (Below.refl _ _) hB1
  have K2 : Hid (Kept w (w1.alloc (.cells #[.slice (some ⟨gE, 0, none⟩) p.ents.length cE, .slice (some ⟨gR, 0, none⟩) p.rules.length cR, .slice (some ⟨gC, 0, none⟩) p.code.length cC] 26)) w1.heap.size (.slice (some ⟨gE, 0, none⟩) p.ents.length cE) (.slice (some ⟨gR, 0, none⟩) p.rules.length cR) (.slice (some ⟨gC, 0, none⟩) p.code.length cC) p) :=
    ⟨heap_alloc_new _ _, own_ints (World.ownsRow.alloc oE _) rfl, own_rules (World.ownsRow.alloc oR _) rfl, own_code (World.ownsRow.alloc oC _) rfl, bel1.alloc bel1.size _⟩
  have HP := hide hp
  clear oE oR oC bel1 hB1 hp hlast P1 hm hk
  go_wp2_with fail
  refine (NU.out _).mono ?_
  rintro e w2 ⟨rfl, rfl⟩
  clear NU
  go_wp2_with fail
  refine (begun_any _ _ _ p m d _ K2.out.e K2.out.r K2.out.c HP.out HMD.out.1 HMD.out.2).mono ?_
  rintro e w3 ⟨gx, rfl, hgx, hB3, hX3⟩
  have K3 := K2.out.on hB3
  have k0 := blk_cell (j := 0) K3.blk rfl
  have k1 := blk_cell (j := 1) K3.blk rfl
  have k2 := blk_cell (j := 2) K3.blk rfl
  have KK := hide K3
  have X3 := hide hX3
  have nx : Hid (w.heap.size ≤ gx) := by have := K2.out.bel.size; show _ ≤ _; omega
  clear K2 hgx hB3 hX3 K3
  generalize w1.heap.size = gp at *
  go_wp2_with fail
  refine (begun_any _ _ _ p m d _ KK.out.e KK.out.r KK.out.c HP.out HMD.out.1 HMD.out.2).mono ?_
  rintro e w4 ⟨gy, rfl, hgy, hB4, hY4⟩
  have X4 := hide (X3.out.below hB4)
  have Y4 := hide hY4
  have B4 := hide (bel0 KK.out.bel hB4)
  have ny : Hid (gx ≠ gy) := by have := X3.out.lt; show gx ≠ gy; omega
  have ny2 : Hid (w.heap.size ≤ gy) := by have := KK.out.bel.size; show _ ≤ _; omega
  clear KK X3 hgy hB4 hY4 k0 k1 k2
  have X5 := hide (X4.out.below ((Below.refl _ _).alloc (Nat.le_refl _) (.cells #[.string s] 9)))
  have Y5 := hide (Y4.out.below ((Below.refl _ _).alloc (Nat.le_refl _) (.cells #[.string s] 9)))
  have B5 := hide (B4.out.alloc B4.out.size (.cells #[.string s] 9))
  have T5 := hide (told_any gx p m d (.slice (some ⟨w4.heap.size, 0, none⟩) 1 1) [s] _ X5.out (own_string w4 s) (by show 0 + s.size ≤ _; have := HS.out.1; omega) (by show 1 ≤ _; omega))
  clear X4 Y4 B4
  go_wp2_with fail
  refine T5.out.mono ?_
  clear T5
  rintro e w6 ⟨D, va, hrD, rfl, hoa, hX6, hg6⟩
  have Y6 := hide (X5.out.beside Y5.out ny.out hg6)
  have B6 := hide (B5.out.grown hg6 B5.out.size (fun k hk => by cases hk; exact nx.out))
  have OA : Hid (w6.ownsRow 0 90 5 va D.toks.length (tokCells D.toks)) := own_mono hoa (Nat.zero_le _)
  have X6 := hide hX6
  have RX := hide hrD
  have e1s : envF p m d [s] = ⟨p, m, d, s, true⟩ := envF_eq p m d [s] s (by show noBytes ++ s = s; exact no_left s)
  rw [e1s] at X6 RX
  obtain ⟨xa, ca, rfl, hca1, hca2, -⟩ := own_read hoa
  unfold maxLen at hca2
  clear X5 Y5 B5 hrD hoa hX6 hg6 e1s
  go_wp2_with fail
  refine (PC.out _ B6.out).mono ?_
  clear PC
  rintro e w7 ⟨l, vl, rfl, hol, hcat, hll, hB7⟩
  have hsm : sumN l l.length = s.size := by rw [← cat_size, hcat]
  have X7 := hide (X6.out.below hB7)
  have Y7 : Hid (Sc w7 gy (envK p m d l 0) (cfg0 p)) := Y6.out.below hB7
  have OA7 := hide (own_below OA.out hB7 (Nat.le_refl _))
  have B7 := hide (bel0 B6.out hB7)
  have T7 := hide (told_any gy p m d vl l w7 Y7.out (own_mono hol (Nat.zero_le _)) (by have := HS.out.1; omega) (by have := HS.out.2; omega))
  obtain ⟨xl, cl, rfl, -, -, -⟩ := own_read hol
  have HCAT := hide hcat
  clear X6 Y6 OA B6 hol hcat hll hB7 hsm
  go_wp2_with fail
  refine T7.out.mono ?_
  clear T7
  rintro e w8 ⟨D', vb, hrD', rfl, hob, hY8, hg8⟩
  have e2s : envF p m d l = ⟨p, m, d, s, true⟩ := envF_eq p m d l s HCAT.out
  rw [e2s] at hrD' hY8
  have hDD : D' = D := hrD'.same RX.out
  subst hDD
  have X8 := hide (Y7.out.beside X7.out (fun e => ny.out e.symm) hg8)
  have Y8 := hide hY8
  have OA8 := hide (Y7.out.apart OA7.out (by decide) hg8)
  have OB8 : Hid (w8.ownsRow 0 90 5 vb D'.toks.length (tokCells D'.toks)) := own_mono hob (Nat.zero_le _)
  have B8 := hide (B7.out.grown hg8 B7.out.size (fun k hk => by cases hk; exact ny2.out))
  obtain ⟨xb, cb, rfl, hcb1, hcb2, -⟩ := own_read hob
  unfold maxLen at hcb2
  clear X7 Y7 OA7 B7 hrD' hob hY8 hg8 e2s RX HCAT
  have ST1 := hide (scState_any gx ⟨p, m, d, s, true⟩ D' w8 X8.out)
  go_wp2_with fail
  refine ST1.out.mono ?_
  clear ST1
  rintro e w9 ⟨rfl, hB9⟩
  obtain ⟨hz, hHZ⟩ : ∃ n, (heldOf ⟨p, m, d, s, true⟩ D').size = n := ⟨_, rfl⟩
  have HHZ := hide hHZ
  clear hHZ
  unfold stateV
  rw [HHZ.out]
  have KS : Hid (Blk (w9.alloc (.cells #[.int .i64 D'.pos, .int .i64 D'.line, .int .i64 D'.col, .int .i64 D'.mode, .int .i64 D'.dep, .int .i64 hz, .int .i64 D'.steps] 60)) w9.heap.size 60 [.int .i64 D'.pos, .int .i64 D'.line, .int .i64 D'.col, .int .i64 D'.mode, .int .i64 D'.dep, .int .i64 hz, .int .i64 D'.steps]) := heap_alloc_new _ _
  have hBA := hB9.alloc hB9.size (.cells #[.int .i64 D'.pos, .int .i64 D'.line, .int .i64 D'.col, .int .i64 D'.mode, .int .i64 D'.dep, .int .i64 hz, .int .i64 D'.steps] 60)
  have Y9 := hide (Y8.out.below hBA)
  have OA9 := hide (own_below OA8.out hBA (Nat.le_refl _))
  have OB9 := hide (own_below OB8.out hBA (Nat.le_refl _))
  have B9 := hide (bel0 B8.out hBA)
  clear X8 Y8 OA8 OB8 B8 hB9 hBA
  go_wp2_with fail
  generalize w9.alloc (.cells #[.int .i64 D'.pos, .int .i64 D'.line, .int .i64 D'.col, .int .i64 D'.mode, .int .i64 D'.dep, .int .i64 hz, .int .i64 D'.steps] 60) = W9 at *
  generalize w9.heap.size = gs at *
  refine (scState_any gy ⟨p, m, d, s, true⟩ D' W9 Y9.out).mono ?_
  rintro e wA ⟨rfl, hBA⟩
  unfold stateV
  rw [HHZ.out]
  have KS2 := blk_below KS.out hBA (blk_lt KS.out)
  have KT : Blk (wA.alloc (.cells #[.int .i64 D'.pos, .int .i64 D'.line, .int .i64 D'.col, .int .i64 D'.mode, .int .i64 D'.dep, .int .i64 hz, .int .i64 D'.steps] 60)) wA.heap.size 60 [.int .i64 D'.pos, .int .i64 D'.line, .int .i64 D'.col, .int .i64 D'.mode, .int .i64 D'.dep, .int .i64 hz, .int .i64 D'.steps] := heap_alloc_new _ _
  have KT' := hide KT
  have KS' := hide (blk_alloc KS2 (.cells #[.int .i64 D'.pos, .int .i64 D'.line, .int .i64 D'.col, .int .i64 D'.mode, .int .i64 D'.dep, .int .i64 hz, .int .i64 D'.steps] 60))
  have hBB := hBA.alloc hBA.size (.cells #[.int .i64 D'.pos, .int .i64 D'.line, .int .i64 D'.col, .int .i64 D'.mode, .int .i64 D'.dep, .int .i64 hz, .int .i64 D'.steps] 60)
  have OAB := hide (own_below OA9.out hBB (Nat.le_refl _))
  have OBB := hide (own_below OB9.out hBB (Nat.le_refl _))
  have BB := hide (bel0 B9.out hBB)
  clear KS KS2 KT hBA hBB OA9 OB9 B9 Y9
  go_wp2_with fail
  generalize wA.alloc (.cells #[.int .i64 D'.pos, .int .i64 D'.line, .int .i64 D'.col, .int .i64 D'.mode, .int .i64 D'.dep, .int .i64 hz, .int .i64 D'.steps] 60) = WB at *
  generalize wA.heap.size = gt at *
  refine (sameTokens_eq _ _ D'.toks WB 0 0 OAB.out OBB.out).mono ?_
  rintro e wC ⟨rfl, hBC⟩
  have KSC := blk_below KS'.out hBC (blk_lt KS'.out)
  have KTC := blk_below KT'.out hBC (blk_lt KT'.out)
  have BC := hide (bel0 BB.out hBC)
  clear KS' KT' OAB OBB BB hBC
  have a0 := blk_cell (j := 0) KSC rfl
  have a1 := blk_cell (j := 1) KSC rfl
  have a2 := blk_cell (j := 2) KSC rfl
  have a3 := blk_cell (j := 3) KSC rfl
  have a4 := blk_cell (j := 4) KSC rfl
  have a5 := blk_cell (j := 5) KSC rfl
  have a6 := blk_cell (j := 6) KSC rfl
  have b0 := blk_cell (j := 0) KTC rfl
  have b1 := blk_cell (j := 1) KTC rfl
  have b2 := blk_cell (j := 2) KTC rfl
  have b3 := blk_cell (j := 3) KTC rfl
  have b4 := blk_cell (j := 4) KTC rfl
  have b5 := blk_cell (j := 5) KTC rfl
  have b6 := blk_cell (j := 6) KTC rfl
  clear KSC KTC
  go_wp2_with fail
  refine (sameState_eq _ _ _ _ _ _ _ _).mono ?_
  rintro e wD ⟨rfl, hBD⟩
  have BD := hide (bel0 BC.out hBD)
  clear a0 a1 a2 a3 a4 a5 a6 b0 b1 b2 b3 b4 b5 b6 BC hBD
  go_wp2_with fail
  refine (EV.out _).mono ?_
  rintro e wE ⟨rfl, hBE⟩
  have BE := hide (bel0 BD.out hBE)
  clear EV BD hBE
  go_wp2
  go_ret
  exact ⟨by simp, BE.out⟩

end Go.Proofs.Ytmccnmgaoppogaa

/-
  Plain mathematics: rules of brackets: one byte, one token, or none.
-/
import Derived.Test.YtmccnmgaoppogabNA
import Derived.Test.YtmccnmgaoppogabSS
namespace Go.Proofs.Ytmccnmgaoppogab
namespace Pure

/-- the rules: brackets that push and pop, any other byte but a line's end is skipped -/
def nestT : ByteArray := ⟨#[97, 32, 92, 40, 32, 101, 43, 97, 10, 97, 32, 92, 41, 32, 101, 60, 10, 97, 32, 46, 32, 115]⟩
def nestL : List Ln := [⟨0, 1, 2, 0, .pl (onlyB 40), false⟩, ⟨0, 1, 3, 0, .pl (onlyB 41), false⟩, ⟨0, 0, 0, 0, .pl (notB (onlyB 10)), false⟩]

theorem nest_pk : (∀ i, i < 22 → pkb nestT i = ([97, 32, 92, 40, 32, 101, 43, 97, 10, 97, 32, 92, 41, 32, 101, 60, 10, 97, 32, 46, 32, 115] : List Int).getD i 0) := by decide
theorem nest_lns : Lns nestT 0 [] nestL := by
  have p := nest_pk
  have p0 : pkb nestT 0 = 97 := p 0 (by decide)
  have p1 : pkb nestT 1 = 32 := p 1 (by decide)
  have p2 : pkb nestT 2 = 92 := p 2 (by decide)
  have p3 : pkb nestT 3 = 40 := p 3 (by decide)
  have p4 : pkb nestT 4 = 32 := p 4 (by decide)
  have p5 : pkb nestT 5 = 101 := p 5 (by decide)
  have p6 : pkb nestT 6 = 43 := p 6 (by decide)
  have p7 : pkb nestT 7 = 97 := p 7 (by decide)
  have p8 : pkb nestT 8 = 10 := p 8 (by decide)
  have p9 : pkb nestT 9 = 97 := p 9 (by decide)
  have p10 : pkb nestT 10 = 32 := p 10 (by decide)
  have p11 : pkb nestT 11 = 92 := p 11 (by decide)
  have p12 : pkb nestT 12 = 41 := p 12 (by decide)
  have p13 : pkb nestT 13 = 32 := p 13 (by decide)
  have p14 : pkb nestT 14 = 101 := p 14 (by decide)
  have p15 : pkb nestT 15 = 60 := p 15 (by decide)
  have p16 : pkb nestT 16 = 10 := p 16 (by decide)
  have p17 : pkb nestT 17 = 97 := p 17 (by decide)
  have p18 : pkb nestT 18 = 32 := p 18 (by decide)
  have p19 : pkb nestT 19 = 46 := p 19 (by decide)
  have p20 : pkb nestT 20 = 32 := p 20 (by decide)
  have p21 : pkb nestT 21 = 115 := p 21 (by decide)
  have p22 : pkb nestT 22 = -1 := pkb_end (by decide)
  have one : ∀ (i j : Nat) (T : Nat → Bool), P nestT .atom i j (.pl T) false → pkb nestT j = 32 → P nestT .pa i j (.pl T) false := fun i j T h e =>
    .pa (.br (.pc h (.pcR0 (by omega) (by omega) (by omega))) (.brR0 (by rw [e]; unfold BegAtom; omega))) (.paR0 (by omega))
  have a1 : P nestT .pa 2 4 (.pl (onlyB 40)) false := one 2 4 _ (.esc p2 (by rw [p3]; exact .inl ⟨by omega, rfl⟩)) p4
  have a2 : P nestT .pa 11 13 (.pl (onlyB 41)) false := one 11 13 _ (.esc p11 (by rw [p12]; exact .inl ⟨by omega, rfl⟩)) p13
  have a3 : P nestT .pa 19 20 (.pl (notB (onlyB 10))) false := one 19 20 _ (.any p19) p20
  have l1 : LnP nestT 0 8 ⟨0, 1, 2, 0, .pl (onlyB 40), false⟩ := by
    have := LnP.mk (s := nestT) (i := 0) (by rw [p0]; unfold Letter; omega) p1 a1 p4 (.push (e := 1) (by rw [p5]; exact .inl ⟨rfl, rfl⟩) p6 (by rw [p7]; unfold Letter; omega))
    rw [p0, p7] at this
    exact this
  have l2 : LnP nestT 9 16 ⟨0, 1, 3, 0, .pl (onlyB 41), false⟩ := by
    have := LnP.mk (s := nestT) (i := 9) (by rw [p9]; unfold Letter; omega) p10 a2 p13 (.pop (e := 1) (by rw [p14]; exact .inl ⟨rfl, rfl⟩) p15)
    rw [p9] at this
    exact this
  have l3 : LnP nestT 17 22 ⟨0, 0, 0, 0, .pl (notB (onlyB 10)), false⟩ := by
    have := LnP.mk (s := nestT) (i := 17) (by rw [p17]; unfold Letter; omega) p18 a3 p20 (.plain (e := 0) (by rw [p21]; exact .inr ⟨rfl, rfl⟩) (by rw [p22]; omega) (by rw [p22]; omega) (by rw [p22]; omega))
    rw [p17] at this
    exact this
  exact .more l1 p8 (by decide) (.more l2 p16 (by decide) (.done l3))

theorem nest_nM : nM nestL = 1 := by decide
theorem nest_few : ∀ j, j < nM nestL → (setsOf nestL j).length ≤ 42 := fun j _ => by
  have hL := allLn_lin nestL
  refine few_places _ _ _ hL.ok ?_ ?_
  · rw [hL.len]
    exact begin_inl _ hL.pts
  · rw [hL.len]
    decide
theorem nest_dn : NoL dnL nestL := fun x hx => by
  simp [nestL] at hx
  rcases hx with rfl | rfl | rfl <;> rfl
theorem nest_em : NoL emL nestL := fun x hx => by
  simp [nestL] at hx
  rcases hx with rfl | rfl | rfl <;> rfl
theorem nest_get (i : Nat) (x : Ln) (h : nestL[i]? = some x) : (i = 0 ∧ x = ⟨0, 1, 2, 0, .pl (onlyB 40), false⟩) ∨ (i = 1 ∧ x = ⟨0, 1, 3, 0, .pl (onlyB 41), false⟩) ∨ (i = 2 ∧ x = ⟨0, 0, 0, 0, .pl (notB (onlyB 10)), false⟩) := by
  match i, h with
  | 0, h => exact .inl ⟨rfl, by simpa [nestL] using h.symm⟩
  | 1, h => exact .inr (.inl ⟨rfl, by simpa [nestL] using h.symm⟩)
  | 2, h => exact .inr (.inr ⟨rfl, by simpa [nestL] using h.symm⟩)
  | i + 3, h => simp [nestL] at h

/-- which rule matches a byte -/
def ruleC (c : Nat) : Int := if c = 40 then 0 else if c = 41 then 1 else if c = 10 then -1 else 2
theorem onlyN (b c : Nat) : onlyB (b : Int) c = true ↔ c = b := by
  unfold onlyB
  rw [decide_eq_true_iff]
  omega
theorem nest_first {c : Nat} {r : Int} (h : FirstM nestL 0 [c] r) : r = ruleC c := by
  have m0 : M (.pl (onlyB 40)) [c] ↔ c = 40 := by rw [M_pl]; exact ⟨fun ⟨x, e, hx⟩ => by cases e; exact (onlyN 40 c).1 hx, fun e => ⟨c, rfl, (onlyN 40 c).2 e⟩⟩
  have m1 : M (.pl (onlyB 41)) [c] ↔ c = 41 := by rw [M_pl]; exact ⟨fun ⟨x, e, hx⟩ => by cases e; exact (onlyN 41 c).1 hx, fun e => ⟨c, rfl, (onlyN 41 c).2 e⟩⟩
  have m2 : M (.pl (notB (onlyB 10))) [c] ↔ c ≠ 10 := by
    rw [M_pl]
    have k : notB (onlyB 10) c = true ↔ c ≠ 10 := by
      unfold notB
      rw [Bool.not_eq_true', ← Bool.not_eq_true]
      have e := onlyN 10 c
      exact ⟨fun h h' => h (e.2 h'), fun h h' => h (e.1 h')⟩
    exact ⟨fun ⟨x, e, hx⟩ => by cases e; exact k.1 hx, fun e => ⟨c, rfl, k.2 e⟩⟩
  unfold ruleC
  rcases h with ⟨h1, h2⟩ | ⟨i, x, h1, h2, _, h4, h5⟩
  · have n0 := h2 0 _ rfl rfl
    have n1 := h2 1 _ rfl rfl
    have n2 := h2 2 _ rfl rfl
    have n0 : ¬ c = 40 := fun e => n0 (m0.2 e)
    have n1 : ¬ c = 41 := fun e => n1 (m1.2 e)
    have n2 : c = 10 := Classical.byContradiction fun e => n2 (m2.2 e)
    rw [if_neg n0, if_neg n1, if_pos n2]
    exact h1
  · rcases nest_get i x h2 with ⟨rfl, rfl⟩ | ⟨rfl, rfl⟩ | ⟨rfl, rfl⟩
    · rw [if_pos (m0.1 h4)]; exact h1
    · have e := m1.1 h4
      rw [if_neg (by omega), if_pos e]; exact h1
    · have e := m2.1 h4
      have n0 : ¬ c = 40 := fun e => h5 0 _ (by decide) rfl rfl (m0.2 e)
      have n1 : ¬ c = 41 := fun e => h5 1 _ (by decide) rfl rfl (m1.2 e)
      rw [if_neg n0, if_neg n1, if_neg e]; exact h1
theorem nest_on0 : OnW nestL 0 [] := ⟨[40], by simp, fun c hc => by simp at hc; omega, 0, _, rfl, rfl, M_pl.2 ⟨40, rfl, (onlyN 40 40).2 rfl⟩⟩
theorem nest_on1 (c : Nat) : ¬ OnW nestL 0 [c] := by
  rintro ⟨v, hne, _, i, x, h1, _, h3⟩
  have : ∃ T, x.re = .pl T := by
    rcases nest_get i x h1 with ⟨_, rfl⟩ | ⟨_, rfl⟩ | ⟨_, rfl⟩ <;> exact ⟨_, rfl⟩
  obtain ⟨T, hT⟩ := this
  rw [hT, M_pl] at h3
  obtain ⟨x, e, _⟩ := h3
  cases v with
  | nil => exact hne rfl
  | cons a v => simp at e

/-- between two tokens -/
structure Nsd (E : Env) (at_ op : Nat) (T : List Tok) (C : Cfg) : Prop where
  pos : C.pos = (at_ : Int)
  line : C.line = 1
  col : C.col = (at_ : Int) + 1
  mode : C.mode = 0
  stk : ∀ i, ig C.stk i = 0
  dep : C.dep = (op : Int)
  ins : C.ins = ig E.p.ents 0
  looked : C.looked = 0
  rule : C.rule = 0
  marked : C.marked = 0
  toks : C.toks = T
  err : C.err = 0
theorem nst0 (E : Env) : Nsd E 0 0 [] (cfg0 E.p) := ⟨rfl, rfl, rfl, rfl, fun i => by
  show (List.replicate 8 (0 : Int)).getD i 0 = 0
  rw [List.getD_eq_getElem?_getD, List.getElem?_replicate]
  split <;> rfl, rfl, rfl, rfl, rfl, rfl, rfl, rfl⟩

theorem adv_one (s : ByteArray) (a : Nat) (l c : Int) (h : bt s a ≠ 10) : adv s a 1 (l, c) = (l, c + 1) := by
  show (if bt s (a + 0) = 10 then _ else _) = _
  rw [Nat.add_zero, if_neg h]
  rfl

theorem ig_zero_set {l : List Int} (h : ∀ i, ig l i = 0) (n : Nat) : ∀ i, ig (l.set n 0) i = 0 := fun i => by
  have hi := h i
  unfold ig at *
  rw [List.getD_eq_getElem?_getD] at *
  rw [List.getElem?_set]
  split
  · split <;> rfl
  · exact hi
theorem ruleC_bd (c : Nat) : ruleC c = -1 ∨ ruleC c = 0 ∨ ruleC c = 1 ∨ ruleC c = 2 := by
  unfold ruleC
  split
  · exact .inr (.inl rfl)
  · split
    · exact .inr (.inr (.inl rfl))
    · split
      · exact .inl rfl
      · exact .inr (.inr (.inr rfl))

/-- one byte more is looked at -/
theorem nest_look {E : Env} (hp : E.p = compP nestL) (hm : E.most = 1) {k op : Nat} {T : List Tok} {C : Cfg} (h : Nsd E k op T C) (hk : k < E.s.size) {c : Nat} (hc : bt E.s k = (c : Int)) :
    ∃ (K : List Kd) (steps ins cc : Int), Rch E C (take E (Sk E C K 1 (if ruleC c = -1 then (0, 0) else (ruleC c, 1)) steps ins cc) 0) := by
  obtain ⟨K, e, Tl, he0, hL⟩ := comp_start nest_few (m := 0) (by rw [nest_nM]; exact Nat.one_pos)
  rw [← hp] at he0 hL
  have hF : Fresh E C := ⟨h.err, ⟨by rw [h.pos]; omega, by rw [h.pos]; omega⟩, h.looked, h.rule, h.marked⟩
  obtain ⟨st, hS, h0⟩ := at_begin hF hL (by rw [h.ins]; exact he0)
  have hK := Tl.kok
  have ep : C.pos.toNat = k := by rw [h.pos]; simp
  have w1 : wd E.s k 1 = [c] := by
    rw [wd_succ, Nat.add_zero, hc]
    simp [wd]
  obtain ⟨D1, r1, a1⟩ := seek_to hF hK hS h0 1 (fun i hi => by
    have : i = 0 := by omega
    subst this
    refine ⟨(Tl.onw (wd_byt _ _ _)).2 ?_, ?_, ?_⟩
    · exact nest_on0
    · rw [h.pos]; omega
    · rw [hm]; decide)
  have hoff : ¬ OnK K (wd E.s C.pos.toNat 1) := fun ho => by
    have := (Tl.onw (wd_byt _ _ _)).1 ho
    rw [ep, w1] at this
    exact nest_on1 c this
  obtain ⟨a, b, d, hr⟩ := at_stop hF hK a1 hoff
  refine ⟨K, a, b, d, ?_⟩
  have hmk : mk K E.s C.pos.toNat (1 + 1) = if ruleC c = -1 then (0, 0) else (ruleC c, 1) := by
    have hf := nest_first (Tl.first (w := [c]) (by have := wd_byt E.s k 1; rwa [w1] at this) (by simp))
    rw [ep, mk_succ, w1, hf]
    by_cases hr1 : ruleC c = -1
    · rw [if_neg (fun h => h.2 hr1), if_pos hr1]
      rfl
    · rw [if_pos ⟨by omega, hr1⟩, if_neg hr1]
      rfl
  rw [hmk] at hr
  exact r1.trans hr

/-- one byte more: what comes of it -/
theorem nest_step {E : Env} (hp : E.p = compP nestL) (hm : E.most = 1) {k op : Nat} {T : List Tok} {C : Cfg} (h : Nsd E k op T C) (hk : k < E.s.size) {c : Nat} (hc : bt E.s k = (c : Int)) :
    ∃ F, Rch E C F ∧
      ((c = 40 ∧ E.depth ≤ (op : Int) ∧ F.err = 6 ∧ F.toks = T ∧ F.pos = (k : Int) ∧ F.dep = (op : Int) ∧ F.mode = 0) ∨
       (c = 40 ∧ (op : Int) < E.depth ∧ Nsd E (k + 1) (op + 1) (T ++ [⟨0, (k : Int), 1, 1, (k : Int) + 1⟩]) F) ∨
       (c = 41 ∧ op = 0 ∧ F.err = 7 ∧ F.toks = T ∧ F.pos = (k : Int) ∧ F.dep = (op : Int) ∧ F.mode = 0) ∨
       (c = 41 ∧ op ≠ 0 ∧ Nsd E (k + 1) (op - 1) (T ++ [⟨1, (k : Int), 1, 1, (k : Int) + 1⟩]) F) ∨
       (c = 10 ∧ F.err = 4 ∧ F.toks = T ∧ F.pos = (k : Int) ∧ F.dep = (op : Int) ∧ F.mode = 0) ∨
       (c ≠ 40 ∧ c ≠ 41 ∧ c ≠ 10 ∧ Nsd E (k + 1) op T F)) := by
  obtain ⟨K, a, b, d, hr⟩ := nest_look hp hm h hk hc
  refine ⟨_, hr, ?_⟩
  have ep : C.pos.toNat = k := by rw [h.pos]; simp
  have nb : c ≠ 10 → bt E.s k ≠ 10 := fun hn => by rw [hc]; omega
  have adv1 : c ≠ 10 → adv E.s C.pos.toNat (1 : Int).toNat (C.line, C.col) = (1, (k : Int) + 1 + 1) := fun hn => by
    rw [ep, h.line, h.col]
    exact adv_one E.s k 1 _ (nb hn)
  have g0 : rg E.p.rules (0 : Int).toNat = ⟨1, 2, 0⟩ := by rw [hp]; exact rule_of nestL (f := 0) rfl
  have g1 : rg E.p.rules (1 : Int).toNat = ⟨1, 3, 0⟩ := by rw [hp]; exact rule_of nestL (f := 1) rfl
  have g2 : rg E.p.rules (2 : Int).toNat = ⟨0, 0, 0⟩ := by rw [hp]; exact rule_of nestL (f := 2) rfl
  unfold ruleC
  by_cases c40 : c = 40
  · rw [if_pos c40, if_neg (by decide)]
    generalize hS : Sk E C K 1 (0, 1) a b d = S
    have sm : S.marked = 1 := by rw [← hS]; rfl
    have sr : S.rule = 0 := by rw [← hS]; rfl
    have sd : S.dep = C.dep := by rw [← hS]; rfl
    by_cases hd : E.depth ≤ (op : Int)
    · left
      have hw : wrong E.p E.depth S = 6 := by
        unfold wrong
        rw [sr, g0, if_neg (by omega), if_pos ⟨rfl, by rw [sd, h.dep]; exact hd⟩]
      have ht : take E S 0 = { S with err := 6 } := by
        unfold take
        rw [if_neg (by omega), hw, if_pos (by decide)]
      rw [ht]
      exact ⟨c40, hd, rfl, by rw [← hS]; exact h.toks, by rw [← hS]; exact h.pos, by rw [← hS]; exact h.dep, by rw [← hS]; exact h.mode⟩
    · right; left
      have hw : wrong E.p E.depth S = 0 := by
        unfold wrong
        rw [sr, g0, if_neg (by omega), if_neg (fun hh => hd (by have := hh.2; rw [sd, h.dep] at this; exact this)), if_neg (by intro hh; have := hh.1; simp at this)]
      have ht : take E S 0 = took E.p E.s S := by
        unfold take
        rw [if_neg (by omega), hw, if_neg (by decide)]
      rw [ht, ← hS]
      refine ⟨c40, by omega, ?_⟩
      unfold took
      have hrr : rg E.p.rules (Sk E C K 1 (0, 1) a b d).rule.toNat = ⟨1, 2, 0⟩ := g0
      simp only [hrr]
      have a1 := adv1 (by omega)
      refine ⟨?_, ?_, ?_, rfl, ?_, ?_, ?_, rfl, rfl, rfl, ?_, rfl⟩
      · show C.pos + 1 = _; rw [h.pos]; omega
      · show (adv E.s C.pos.toNat (1 : Int).toNat (C.line, C.col)).1 = 1; rw [a1]
      · show (adv E.s C.pos.toNat (1 : Int).toNat (C.line, C.col)).2 = _; rw [a1]; show (k : Int) + 1 + 1 = _; omega
      · show ∀ i, ig (C.stk.set C.dep.toNat C.mode) i = 0
        rw [h.mode]
        exact ig_zero_set h.stk _
      · show C.dep + 1 = _; rw [h.dep]; omega
      · rfl
      · show C.toks ++ [⟨0, C.pos, 1, C.line, C.col⟩] = _
        rw [h.toks, h.pos, h.line, h.col]
  · rw [if_neg c40]
    by_cases c41 : c = 41
    · rw [if_pos c41, if_neg (by decide)]
      generalize hS : Sk E C K 1 (1, 1) a b d = S
      have sm : S.marked = 1 := by rw [← hS]; rfl
      have sr : S.rule = 1 := by rw [← hS]; rfl
      have sd : S.dep = C.dep := by rw [← hS]; rfl
      by_cases hd : op = 0
      · right; right; left
        have hw : wrong E.p E.depth S = 7 := by
          unfold wrong
          rw [sr, g1, if_neg (by omega), if_neg (by intro hh; have := hh.1; simp at this), if_pos ⟨rfl, by rw [sd, h.dep]; omega⟩]
        have ht : take E S 0 = { S with err := 7 } := by
          unfold take
          rw [if_neg (by omega), hw, if_pos (by decide)]
        rw [ht]
        exact ⟨c41, hd, rfl, by rw [← hS]; exact h.toks, by rw [← hS]; exact h.pos, by rw [← hS]; exact h.dep, by rw [← hS]; exact h.mode⟩
      · right; right; right; left
        have hw : wrong E.p E.depth S = 0 := by
          unfold wrong
          rw [sr, g1, if_neg (by omega), if_neg (by intro hh; have := hh.1; simp at this), if_neg (fun hh => hd (by have := hh.2; rw [sd, h.dep] at this; omega))]
        have ht : take E S 0 = took E.p E.s S := by
          unfold take
          rw [if_neg (by omega), hw, if_neg (by decide)]
        rw [ht, ← hS]
        refine ⟨c41, hd, ?_⟩
        unfold took
        have hrr : rg E.p.rules (Sk E C K 1 (1, 1) a b d).rule.toNat = ⟨1, 3, 0⟩ := g1
        simp only [hrr]
        have a1 := adv1 (by omega)
        have hmd : newMode ⟨1, 3, 0⟩ (Sk E C K 1 (1, 1) a b d) = 0 := h.stk _
        refine ⟨?_, ?_, ?_, hmd, ?_, ?_, ?_, rfl, rfl, rfl, ?_, rfl⟩
        · show C.pos + 1 = _; rw [h.pos]; omega
        · show (adv E.s C.pos.toNat (1 : Int).toNat (C.line, C.col)).1 = 1; rw [a1]
        · show (adv E.s C.pos.toNat (1 : Int).toNat (C.line, C.col)).2 = _; rw [a1]; show (k : Int) + 1 + 1 = _; omega
        · exact h.stk
        · show C.dep - 1 = _; rw [h.dep]; omega
        · show ig E.p.ents (newMode ⟨1, 3, 0⟩ (Sk E C K 1 (1, 1) a b d)).toNat = _; rw [hmd]; rfl
        · show C.toks ++ [⟨1, C.pos, 1, C.line, C.col⟩] = _
          rw [h.toks, h.pos, h.line, h.col]
    · rw [if_neg c41]
      by_cases c10 : c = 10
      · rw [if_pos c10, if_pos rfl]
        right; right; right; right; left
        generalize hS : Sk E C K 1 (0, 0) a b d = S
        have sm : S.marked = 0 := by rw [← hS]; rfl
        have hw : wrong E.p E.depth S = 4 := by
          unfold wrong
          rw [if_pos sm]
        have ht : take E S 0 = { S with err := 4 } := by
          unfold take
          rw [if_neg (by omega), hw, if_pos (by decide)]
        rw [ht]
        exact ⟨c10, rfl, by rw [← hS]; exact h.toks, by rw [← hS]; exact h.pos, by rw [← hS]; exact h.dep, by rw [← hS]; exact h.mode⟩
      · rw [if_neg c10, if_neg (by decide)]
        right; right; right; right; right
        refine ⟨c40, c41, c10, ?_⟩
        have ht := take_plain (E := E) (C := Sk E C K 1 (2, 1) a b d) (r := ⟨0, 0, 0⟩) (by show (1 : Int) ≠ 0; omega) g2 (.inl rfl)
        rw [ht]
        unfold took
        have hrr : rg E.p.rules (Sk E C K 1 (2, 1) a b d).rule.toNat = ⟨0, 0, 0⟩ := g2
        simp only [hrr]
        have a1 := adv1 c10
        refine ⟨?_, ?_, ?_, h.mode, ?_, ?_, ?_, rfl, rfl, rfl, ?_, rfl⟩
        · show C.pos + 1 = _; rw [h.pos]; omega
        · show (adv E.s C.pos.toNat (1 : Int).toNat (C.line, C.col)).1 = 1; rw [a1]
        · show (adv E.s C.pos.toNat (1 : Int).toNat (C.line, C.col)).2 = _; rw [a1]; show (k : Int) + 1 + 1 = _; omega
        · exact h.stk
        · exact h.dep
        · show ig E.p.ents C.mode.toNat = _; rw [h.mode]; rfl
        · exact h.toks

end Pure
end Go.Proofs.Ytmccnmgaoppogab

/-
  Plain mathematics: two rules, each an x and a small pattern behind it: the first token.
-/
import Derived.Test.YtmccnmgaoppogabO4
namespace Go.Proofs.Ytmccnmgaoppogab
namespace Pure

section
variable {rx ry : Re}
/-- nothing leads to the place of the x -/
theorem pa_x {r : Re} {n p q : Nat} {w : List Nat} (h : Pa (.cat (.pl (onlyB 120)) r) n p w q) : q = n → w = [120] := by
  induction h with
  | @one p c ht =>
    intro e
    subst e
    rcases ht with ⟨_, h⟩ | h
    · rw [(onlyX c).1 h]
    · have := h.rg
      have e : (Re.pl (onlyB 120)).leaves = 1 := rfl
      unfold Rg at this
      omega
  | @cons p q s c w _ hf hp ih =>
    intro e
    have hw := ih e
    subst e
    exfalso
    have hq : q = s := by
      cases hp with
      | one _ => rfl
      | cons _ _ hp' => 
        cases hw
        cases hp'
    have e1 : (Re.pl (onlyB 120)).leaves = 1 := rfl
    rcases hf with h | h | ⟨_, h⟩
    · exact h
    · have := h.rg.2
      unfold Rg at this
      omega
    · have := h.rg
      unfold Rg at this
      omega
theorem two_get {i : Nat} {y : Ln} (h : [lnX rx, lnX ry][i]? = some y) : (i = 0 ∧ y = lnX rx) ∨ (i = 1 ∧ y = lnX ry) := by
  match i, h with
  | 0, h => exact .inl ⟨rfl, by simpa using h.symm⟩
  | 1, h => exact .inr ⟨rfl, by simpa using h.symm⟩
  | i + 2, h => simp at h
theorem two_mem {y : Ln} (h : y ∈ [lnX rx, lnX ry]) : y = lnX rx ∨ y = lnX ry := by simpa using h
theorem two_nM : nM [lnX rx, lnX ry] = 1 := by
  unfold nM nModes
  have h : ∀ y ∈ (allLn [lnX rx, lnX ry]).1, y.mode = 0 ∧ y.md = 0 := fun y hy => by
    obtain ⟨x, pt, hx, rfl⟩ := lp_of hy
    rcases two_mem hx with rfl | rfl <;> exact ⟨rfl, rfl⟩
  have key : ∀ (l : List Lp), (∀ x ∈ l, x.mode = 0 ∧ x.md = 0) → l.foldl hi1 0 = 0 := by
    intro l
    induction l with
    | nil => intro _; rfl
    | cons x l ih =>
      intro hx
      have h1 := hx x (List.mem_cons_self ..)
      have : hi1 0 x = 0 := by unfold hi1; rw [h1.1, h1.2]; rfl
      rw [List.foldl_cons, this]
      exact ih (fun y hy => hx y (List.mem_cons_of_mem _ hy))
  rw [key _ h]
  rfl
theorem two_dn : NoL dnL [lnX rx, lnX ry] := fun x hx => by rcases two_mem hx with rfl | rfl <;> rfl
theorem two_em : NoL emL [lnX rx, lnX ry] := fun x hx => by
  rcases two_mem hx with rfl | rfl
  · show (false && rx.empt) = false
    rfl
  · show (false && ry.empt) = false
    rfl
/-- the set of a word that holds the first x -/
theorem two_zero {mode : Int} {q : List Lp × List Pl} (hL : Lin [lnX rx, lnX ry] q) {w : List Nat} (hw : w ≠ []) (h : 0 ∈ setW q mode w) : w = [120] := by
  obtain ⟨k, x, hk, _, p, hf, hp⟩ := (mem_setW hL mode w hw 0).1 h
  have h2 := hp.rg.2
  rcases two_get hk with ⟨rfl, rfl⟩ | ⟨rfl, rfl⟩
  · exact pa_x hp rfl
  · unfold Rg at h2
    have : base (List.take 1 [lnX rx, lnX ry]) = 1 + rx.leaves := by simp [base, lnX, Re.leaves]
    rw [this] at h2
    omega
theorem two_few (hx : rx.leaves ≤ 2) (hy : ry.leaves ≤ 2) : ∀ j, j < nM [lnX rx, lnX ry] → (setsOf [lnX rx, lnX ry] j).length ≤ 42 := fun j _ => by
  have hL := allLn_lin [lnX rx, lnX ry]
  have hb : base [lnX rx, lnX ry] = 1 + rx.leaves + (1 + ry.leaves) := by simp [base, lnX, Re.leaves]
  have hbg : Inl (allLn [lnX rx, lnX ry]).2.length (beginR (allLn [lnX rx, lnX ry]).1 (j : Int)) := by
    rw [hL.len]
    exact begin_inl _ hL.pts
  have hlen : (allLn [lnX rx, lnX ry]).2.length ≤ 6 := by
    rw [hL.len, hb]
    omega
  show (findS (allLn [lnX rx, lnX ry]).1 (allLn [lnX rx, lnX ry]).2 (j : Int)).length ≤ 42
  obtain ⟨k, h⟩ := find_any_wk (allLn [lnX rx, lnX ry]).1 (allLn [lnX rx, lnX ry]).2 (j : Int)
  generalize hss : findS (allLn [lnX rx, lnX ry]).1 (allLn [lnX rx, lnX ry]).2 (j : Int) = ss at *
  have := h.count (fun i => if 0 ∈ plS ss i then 32 else encS 5 ((plS ss i).map (· - 1))) 33 (fun i _ _ => by
      show (if _ then _ else _) < 33
      split
      · omega
      · have := encS_lt ((plS ss i).map (· - 1)) 5
        omega) (fun i j h2 hij hj e => by
    have a := h.inl hL.ok hbg h2 (by omega)
    have b := h.inl hL.ok hbg (show 2 ≤ j by omega) hj
    refine h.dis i j hij hj (by omega) ?_
    have e' : (if 0 ∈ plS ss i then 32 else encS 5 ((plS ss i).map (· - 1))) = (if 0 ∈ plS ss j then 32 else encS 5 ((plS ss j).map (· - 1))) := e
    have li := encS_lt ((plS ss i).map (· - 1)) 5
    have lj := encS_lt ((plS ss j).map (· - 1)) 5
    by_cases ci : 0 ∈ plS ss i
    · by_cases cj : 0 ∈ plS ss j
      · obtain ⟨w, hw, ew⟩ := h.word i i (Nat.le_refl _) h2 (by omega)
        obtain ⟨w', hw', ew'⟩ := h.word j j (Nat.le_refl _) (by omega) hj
        have c1 := ci
        have c2 := cj
        rw [ew] at c1
        rw [ew'] at c2
        rw [ew, ew', two_zero hL hw c1, two_zero hL hw' c2]
      · rw [if_pos ci, if_neg cj] at e'
        omega
    · by_cases cj : 0 ∈ plS ss j
      · rw [if_neg ci, if_pos cj] at e'
        omega
      · rw [if_neg ci, if_neg cj] at e'
        have hm := encS_inj 5 e'
        have mm : ∀ (S : List Nat), 0 ∉ S → ∀ x, 1 ≤ x → (x - 1 ∈ S.map (· - 1) ↔ x ∈ S) := fun S h0 x hx => by
          rw [List.mem_map]
          constructor
          · rintro ⟨y, hy, e⟩
            have : y ≠ 0 := fun e => h0 (e ▸ hy)
            have : y = x := by omega
            exact this ▸ hy
          · intro h
            exact ⟨x, h, rfl⟩
        refine asc_same a.1 b.1 (fun x => ?_)
        by_cases x0 : x = 0
        · subst x0
          exact ⟨fun h => absurd h ci, fun h => absurd h cj⟩
        · by_cases c : x < 6
          · rw [← mm _ ci x (by omega), ← mm _ cj x (by omega)]
            exact hm (x - 1) (by omega)
          · exact ⟨fun h => absurd (a.2 x h) (by omega), fun h => absurd (b.2 x h) (by omega)⟩)
  omega

/-- a word behind an x, byte for byte -/
theorem wd_x {s : ByteArray} {u : List Nat} (hs : Holds s (120 :: u)) {j : Nat} (h1 : 1 ≤ j) (h2 : j ≤ u.length + 1) : wd s 0 j = 120 :: u.take (j - 1) := by
  rw [wd_holds hs (by simpa using h2)]
  cases j with
  | zero => omega
  | succ j => simp
theorem two_run {E : Env} (hx : rx.leaves ≤ 2) (hy : ry.leaves ≤ 2) (hp : E.p = compP [lnX rx, lnX ry]) (he : E.ended = true) (hm : E.most = 64) {u : List Nat} (hs : Holds E.s (120 :: u)) (hu : Byt u) (hn : u.length ≤ 60) {D : Cfg} (hR : Runs E (cfg0 E.p) D) :
    ((∀ i, i ≤ u.length → ¬ M rx (u.take i) ∧ ¬ M ry (u.take i)) → D.err = 4 ∧ D.toks = []) ∧
    (∀ i, i ≤ u.length → ∀ k : Nat, (k = 0 ∧ M rx (u.take i)) ∨ (k = 1 ∧ M ry (u.take i) ∧ ¬ M rx (u.take i)) → (∀ j, i < j → j ≤ u.length → ¬ M rx (u.take j) ∧ ¬ M ry (u.take j)) → ∃ (t : Tok) (more : List Tok), D.toks = t :: more ∧ t.rule = (k : Int) ∧ t.pos = 0 ∧ t.len = (i : Int) + 1) := by
  obtain ⟨K, e0, T, he0, hL⟩ := comp_start (two_few hx hy) (m := 0) (by rw [two_nM]; exact Nat.one_pos)
  rw [← hp] at he0 hL
  have hsz : E.s.size = u.length + 1 := hs.size
  have hF : Fresh E (cfg0 E.p) := ⟨rfl, ⟨Int.le_refl _, by show (0 : Int) < E.s.size; rw [hsz]; omega⟩, rfl, rfl, rfl⟩
  obtain ⟨st, hS, h0⟩ := at_begin hF hL (show (cfg0 E.p).ins = (e0 : Int) from he0)
  have hK := T.kok
  have ep : (cfg0 E.p).pos.toNat = 0 := rfl
  obtain ⟨n, steps, ins, c, e, hr, hon, hcase⟩ := seek_end hF hK hS h0 he
  rw [ep] at hr hon hcase
  have e1 : (cfg0 E.p).pos = 0 := rfl
  have nN : n ≤ u.length + 1 := by
    cases n with
    | zero => omega
    | succ n =>
      have := (hon n (by omega)).2.1
      rw [e1, hsz] at this
      omega
  have he5 : e = 0 ∧ (¬ OnK K (wd E.s 0 n) ∨ u.length + 1 ≤ n) := by
    rcases hcase with ⟨h1, h2⟩ | ⟨_, _, h3, h4⟩
    · refine ⟨h1, ?_⟩
      rcases h2 with h2 | h2
      · exact .inl h2
      · right
        rw [e1, hsz] at h2
        omega
    · rw [hm] at h4
      rw [e1, hsz] at h3
      omega
  obtain ⟨rfl, hstop⟩ := he5
  have hne : ∀ j : Nat, 1 ≤ j → wd E.s 0 j ≠ [] := fun j hj h => by
    have := congrArg List.length h
    rw [wd_len] at this
    simp at this
    omega
  have some_ : ∀ j : Nat, 1 ≤ j → j ≤ u.length + 1 → RK K (wd E.s 0 j) ≠ -1 → M rx (u.take (j - 1)) ∨ M ry (u.take (j - 1)) := fun j h1 h2 hk => by
    rcases T.first (wd_byt E.s 0 j) (hne j h1) with ⟨h, _⟩ | ⟨i, y, _, h3, _, h4, _⟩
    · exact absurd h hk
    · rw [wd_x hs h1 h2] at h4
      rcases two_get h3 with ⟨_, rfl⟩ | ⟨_, rfl⟩
      · exact .inl (M_x.1 h4)
      · exact .inr (M_x.1 h4)
  constructor
  · intro hno
    rcases mk_spec K E.s 0 n with ⟨hmk, _⟩ | ⟨j, j1, jn, hk, _, _⟩
    · rw [hmk] at hr
      have hw : wrong E.p E.depth (Sk E (cfg0 E.p) K n (0, 0) steps ins c) = 4 := by
        unfold wrong
        rw [if_pos (show (Sk E (cfg0 E.p) K n (0, 0) steps ins c).marked = 0 from rfl)]
      have ht : take E (Sk E (cfg0 E.p) K n (0, 0) steps ins c) 0 = { Sk E (cfg0 E.p) K n (0, 0) steps ins c with err := 4 } := by
        unfold take
        rw [if_neg (by omega), hw, if_pos (by decide)]
      rw [ht] at hr
      have hD := hR.end hr (mic_err (by show (4 : Int) ≠ 0; omega))
      rw [hD]
      exact ⟨rfl, rfl⟩
    · have := hno (j - 1) (by omega)
      rcases some_ j j1 (by omega) hk with h | h
      · exact absurd h this.1
      · exact absurd h this.2
  · intro i hi k hk hmax
    have g0 : [lnX rx, lnX ry][0]? = some (lnX rx) := rfl
    have g1 : [lnX rx, lnX ry][1]? = some (lnX ry) := rfl
    have ewi : wd E.s 0 (i + 1) = 120 :: u.take i := by rw [wd_x hs (by omega) (by omega)]; rfl
    have hRK : RK K (wd E.s 0 (i + 1)) = (k : Int) := by
      rcases T.first (wd_byt E.s 0 (i + 1)) (hne _ (by omega)) with ⟨_, h⟩ | ⟨f, y, h2, h3, _, h4, h5⟩
      · exfalso
        rw [ewi] at h
        rcases hk with ⟨_, h'⟩ | ⟨_, h', _⟩
        · exact h 0 _ g0 rfl (M_x.2 h')
        · exact h 1 _ g1 rfl (M_x.2 h')
      · rw [h2]
        rw [ewi] at h4 h5
        rcases two_get h3 with ⟨rfl, rfl⟩ | ⟨rfl, rfl⟩
        · rcases hk with ⟨rfl, _⟩ | ⟨_, _, h'⟩
          · rfl
          · exact absurd (M_x.1 h4) h'
        · rcases hk with ⟨_, h'⟩ | ⟨rfl, _⟩
          · exact absurd (M_x.2 h') (h5 0 _ (by omega) g0 rfl)
          · rfl
    have hwhole : M rx (u.take i) ∨ M ry (u.take i) := by
      rcases hk with ⟨_, h⟩ | ⟨_, h, _⟩
      · exact .inl h
      · exact .inr h
    have hni : i + 1 ≤ n := by
      apply Classical.byContradiction
      intro hlt
      rcases hstop with h | h
      · apply h
        have hwn : wd E.s 0 n = (120 :: u.take i).take n := by
          rw [← ewi]
          rw [wd_holds hs (by simp; omega), wd_holds hs (by simp; omega), List.take_take, Nat.min_eq_left (by omega)]
        have hby : Byt (120 :: u.take i) := fun c hc => by
          rcases List.mem_cons.1 hc with h | h
          · omega
          · exact hu c (List.mem_of_mem_take h)
        have hdn : (120 :: u.take i).drop n ≠ [] := fun hd => by
          have := congrArg List.length hd
          rw [List.length_drop] at this
          simp at this
          omega
        rcases hwhole with h' | h'
        · exact (T.onw (wd_byt _ _ _)).2 ⟨(120 :: u.take i).drop n, hdn, fun x hx => hby x (List.mem_of_mem_drop hx), 0, lnX rx, g0, rfl, by rw [hwn, List.take_append_drop]; exact M_x.2 h'⟩
        · exact (T.onw (wd_byt _ _ _)).2 ⟨(120 :: u.take i).drop n, hdn, fun x hx => hby x (List.mem_of_mem_drop hx), 1, lnX ry, g1, rfl, by rw [hwn, List.take_append_drop]; exact M_x.2 h'⟩
      · omega
    have hRne : RK K (wd E.s 0 (i + 1)) ≠ -1 := by rw [hRK]; omega
    rcases mk_spec K E.s 0 n with ⟨_, h⟩ | ⟨j, j1, jn, hjk, hmk, hrest⟩
    · exact absurd (h (i + 1) (by omega) hni) hRne
    · have ej : j = i + 1 := by
        rcases Nat.lt_trichotomy j (i + 1) with h | h | h
        · exact absurd (hrest (i + 1) h hni) hRne
        · exact h
        · exfalso
          have := hmax (j - 1) (by omega) (by omega)
          rcases some_ j j1 (by omega) hjk with h' | h'
          · exact this.1 h'
          · exact this.2 h'
      subst ej
      rw [hmk, hRK] at hr
      have hrg : rg E.p.rules ((k : Int)).toNat = ⟨1, 0, 0⟩ := by
        rw [hp]
        rcases hk with ⟨rfl, _⟩ | ⟨rfl, _⟩
        · exact rule_of [lnX rx, lnX ry] (f := 0) rfl
        · exact rule_of [lnX rx, lnX ry] (f := 1) rfl
      have htk := take_plain (E := E) (C := Sk E (cfg0 E.p) K n ((k : Int), ((i + 1 : Nat) : Int)) steps ins c) (by show ((i + 1 : Nat) : Int) ≠ 0; omega) hrg (.inl rfl)
      rw [htk] at hr
      have hFD : Rch E (took E.p E.s (Sk E (cfg0 E.p) K n ((k : Int), ((i + 1 : Nat) : Int)) steps ins c)) D := by
        rcases hr.meets hR.1 with h | h
        · exact h
        · have := h.done hR.2
          rw [this]
          exact .refl _
      obtain ⟨more, hmore⟩ := hFD.toks
      have htoks : (took E.p E.s (Sk E (cfg0 E.p) K n ((k : Int), ((i + 1 : Nat) : Int)) steps ins c)).toks = [⟨(k : Int), 0, ((i + 1 : Nat) : Int), 1, 1⟩] := by
        show (if (rg E.p.rules ((k : Int)).toNat).emit = 1 then _ else _) = _
        rw [hrg]
        rfl
      rw [htoks] at hmore
      exact ⟨_, more, hmore, rfl, rfl, by show ((i + 1 : Nat) : Int) = _; omega⟩
end

end Pure
end Go.Proofs.Ytmccnmgaoppogab

/-
  Plain mathematics: one rule: an x and a pattern behind it: which words are one token.
-/
import Derived.Test.YtmccnmgaoppogabO3
namespace Go.Proofs.Ytmccnmgaoppogab
namespace Pure

section
variable {r : Re}
theorem oneX_nM (r : Re) : nM [lnX r] = 1 := by
  unfold nM nModes
  have h : ∀ y ∈ (allLn [lnX r]).1, y.mode = 0 ∧ y.md = 0 := fun y hy => by
    obtain ⟨x, pt, hx, rfl⟩ := lp_of hy
    rw [List.mem_singleton.1 hx]
    exact ⟨rfl, rfl⟩
  have key : ∀ (l : List Lp), (∀ x ∈ l, x.mode = 0 ∧ x.md = 0) → l.foldl hi1 0 = 0 := by
    intro l
    induction l with
    | nil => intro _; rfl
    | cons x l ih =>
      intro hx
      have h1 := hx x (List.mem_cons_self ..)
      have : hi1 0 x = 0 := by unfold hi1; rw [h1.1, h1.2]; rfl
      rw [List.foldl_cons, this]
      exact ih (fun y hy => hx y (List.mem_cons_of_mem _ hy))
  rw [key _ h]
  rfl
theorem oneX_few (hl : r.leaves ≤ 4) : ∀ j, j < nM [lnX r] → (setsOf [lnX r] j).length ≤ 42 := fun j _ => by
  have hL := allLn_lin [lnX r]
  have hb : base [lnX r] = 1 + r.leaves := by simp [base, lnX, Re.leaves]
  refine few_places _ _ _ hL.ok ?_ ?_
  · rw [hL.len]
    exact begin_inl _ hL.pts
  · rw [hL.len, hb]
    omega
theorem oneX_dn (r : Re) : NoL dnL [lnX r] := fun x hx => by rw [List.mem_singleton.1 hx]; rfl
theorem oneX_em (r : Re) : NoL emL [lnX r] := fun x hx => by
  rw [List.mem_singleton.1 hx]
  show (false && r.empt) = false
  rfl
theorem oneX_get {i : Nat} {y : Ln} (h : [lnX r][i]? = some y) : i = 0 ∧ y = lnX r := by
  match i, h with
  | 0, h => exact ⟨rfl, by simpa using h.symm⟩
  | i + 1, h => simp at h
theorem onlyX (c : Nat) : onlyB 120 c = true ↔ c = 120 := by
  unfold onlyB
  rw [decide_eq_true_iff]
  omega
theorem M_x {u : List Nat} : M (lnX r).re (120 :: u) ↔ M r u := by
  show M (.cat (.pl (onlyB 120)) r) (120 :: u) ↔ _
  rw [M_cat]
  constructor
  · rintro ⟨a, b, e, h1, h2⟩
    obtain ⟨c, rfl, _⟩ := M_pl.1 h1
    have : u = b := by simpa using congrArg List.tail e
    rw [this]
    exact h2
  · intro h
    exact ⟨[120], u, rfl, M_pl.2 ⟨120, rfl, (onlyX 120).2 rfl⟩, h⟩

theorem takes_run {E : Env} (hl : r.leaves ≤ 4) (hp : E.p = compP [lnX r]) (he : E.ended = true) (hm : E.most = 64) {u : List Nat} (hs : Holds E.s (120 :: u)) (hu : Byt u) (hn : u.length ≤ 60) {D : Cfg} (hR : Runs E (cfg0 E.p) D) :
    (M r u → D.err = 0 ∧ ∃ t : Tok, D.toks = [t] ∧ t.pos = 0 ∧ t.len = (u.length : Int) + 1) ∧
    (¬ M r u → D.err ≠ 0 ∨ D.toks.length ≠ 1 ∨ ∃ t : Tok, D.toks = [t] ∧ t.len ≠ (u.length : Int) + 1) := by
  obtain ⟨K, e0, T, he0, hL⟩ := comp_start (oneX_few hl) (m := 0) (by rw [oneX_nM]; exact Nat.one_pos)
  rw [← hp] at he0 hL
  have hsz : E.s.size = u.length + 1 := hs.size
  have hF : Fresh E (cfg0 E.p) := ⟨rfl, ⟨Int.le_refl _, by show (0 : Int) < E.s.size; rw [hsz]; omega⟩, rfl, rfl, rfl⟩
  obtain ⟨st, hS, h0⟩ := at_begin hF hL (show (cfg0 E.p).ins = (e0 : Int) from he0)
  have hK := T.kok
  have ep : (cfg0 E.p).pos.toNat = 0 := rfl
  have hby : Byt (120 :: u) := fun c hc => by
    rcases List.mem_cons.1 hc with h | h
    · omega
    · exact hu c h
  have hg0 : [lnX r][0]? = some (lnX r) := rfl
  have hwN : wd E.s 0 (u.length + 1) = 120 :: u := by
    have := wd_holds hs (n := u.length + 1) (by simp)
    rw [this]
    exact List.take_of_length_le (by simp)
  obtain ⟨n, steps, ins, c, e, hr, hon, hcase⟩ := seek_end hF hK hS h0 he
  rw [ep] at hr hon hcase
  have nN : n ≤ u.length + 1 := by
    cases n with
    | zero => omega
    | succ n =>
      have := (hon n (by omega)).2.1
      have e1 : (cfg0 E.p).pos = 0 := rfl
      rw [e1, hsz] at this
      omega
  have e1 : (cfg0 E.p).pos = 0 := rfl
  have he5 : e = 0 ∧ (¬ OnK K (wd E.s 0 n) ∨ u.length + 1 ≤ n) := by
    rcases hcase with ⟨h1, h2⟩ | ⟨_, _, h3, h4⟩
    · refine ⟨h1, ?_⟩
      rcases h2 with h2 | h2
      · exact .inl h2
      · right
        rw [e1, hsz] at h2
        omega
    · rw [hm] at h4
      rw [e1, hsz] at h3
      omega
  obtain ⟨rfl, hstop⟩ := he5
  have rule0 : ∀ j : Nat, 1 ≤ j → RK K (wd E.s 0 j) ≠ -1 → RK K (wd E.s 0 j) = 0 ∧ M (lnX r).re (wd E.s 0 j) := fun j hj hne => by
    have hwne : wd E.s 0 j ≠ [] := fun h => by
      have := congrArg List.length h
      rw [wd_len] at this
      simp at this
      omega
    rcases T.first (wd_byt E.s 0 j) hwne with ⟨h, _⟩ | ⟨i, y, h1, h2, _, h4, _⟩
    · exact absurd h hne
    · obtain ⟨rfl, rfl⟩ := oneX_get h2
      exact ⟨h1, h4⟩
  have hrg : rg E.p.rules (0 : Int).toNat = ⟨1, 0, 0⟩ := by
    rw [hp]
    exact rule_of [lnX r] (f := 0) rfl
  constructor
  · intro hM
    have hMx : M (lnX r).re (120 :: u) := M_x.2 hM
    have en : n = u.length + 1 := by
      rcases hstop with h | h
      · apply Classical.byContradiction
        intro hne
        apply h
        have hwd : wd E.s 0 n = (120 :: u).take n := wd_holds hs (by simp; omega)
        refine (T.onw (wd_byt _ _ _)).2 ⟨(120 :: u).drop n, fun hd => ?_, fun x hx => hby x (List.mem_of_mem_drop hx), 0, lnX r, hg0, rfl, ?_⟩
        · have := congrArg List.length hd
          rw [List.length_drop] at this
          simp at this
          omega
        · rw [hwd, List.take_append_drop]
          exact hMx
      · omega
    subst en
    have hne : RK K (wd E.s 0 (u.length + 1)) ≠ -1 := fun h => by
      rw [hwN] at h
      exact (T.first hby (by simp)).none h 0 _ hg0 rfl hMx
    have hmk : mk K E.s 0 (u.length + 1 + 1) = (0, ((u.length + 1 : Nat) : Int)) := by
      rw [mk_succ, if_pos ⟨by omega, hne⟩, (rule0 _ (by omega) hne).1]
    rw [hmk] at hr
    have htk := take_plain (E := E) (C := Sk E (cfg0 E.p) K (u.length + 1) (0, ((u.length + 1 : Nat) : Int)) steps ins c) (by show ((u.length + 1 : Nat) : Int) ≠ 0; omega) hrg (.inl rfl)
    rw [htk] at hr
    have hend : mic E (took E.p E.s (Sk E (cfg0 E.p) K (u.length + 1) (0, ((u.length + 1 : Nat) : Int)) steps ins c)) = none := by
      unfold mic
      have : (E.s.size : Int) ≤ 0 + ((u.length + 1 : Nat) : Int) := by rw [hsz]; omega
      rw [if_pos (.inr this)]
    have hD := hR.end hr hend
    refine ⟨by rw [hD]; rfl, ⟨0, 0, ((u.length + 1 : Nat) : Int), 1, 1⟩, ?_, rfl, by show ((u.length + 1 : Nat) : Int) = _; omega⟩
    rw [hD]
    show (if (rg E.p.rules (0 : Int).toNat).emit = 1 then _ else _) = _
    rw [hrg]
    rfl
  · intro hM
    rcases mk_spec K E.s 0 n with ⟨hmk, _⟩ | ⟨j, j1, jn, hne, hmk, _⟩
    · left
      rw [hmk] at hr
      have hw : wrong E.p E.depth (Sk E (cfg0 E.p) K n (0, 0) steps ins c) = 4 := by
        unfold wrong
        rw [if_pos (show (Sk E (cfg0 E.p) K n (0, 0) steps ins c).marked = 0 from rfl)]
      have ht : take E (Sk E (cfg0 E.p) K n (0, 0) steps ins c) 0 = { Sk E (cfg0 E.p) K n (0, 0) steps ins c with err := 4 } := by
        unfold take
        rw [if_neg (by omega), hw, if_pos (by decide)]
      rw [ht] at hr
      have hD := hR.end hr (mic_err (by show (4 : Int) ≠ 0; omega))
      rw [hD]
      show (4 : Int) ≠ 0
      omega
    · right
      have h0 := rule0 j j1 hne
      have jN : j ≠ u.length + 1 := fun e => by
        rw [e, hwN] at h0
        exact hM (M_x.1 h0.2)
      rw [hmk, h0.1] at hr
      have htk := take_plain (E := E) (C := Sk E (cfg0 E.p) K n (0, (j : Int)) steps ins c) (by show (j : Int) ≠ 0; omega) hrg (.inl rfl)
      rw [htk] at hr
      have hFD : Rch E (took E.p E.s (Sk E (cfg0 E.p) K n (0, (j : Int)) steps ins c)) D := by
        rcases hr.meets hR.1 with h | h
        · exact h
        · have := h.done hR.2
          rw [this]
          exact .refl _
      obtain ⟨more, hmore⟩ := hFD.toks
      have htoks : (took E.p E.s (Sk E (cfg0 E.p) K n (0, (j : Int)) steps ins c)).toks = [⟨0, 0, (j : Int), 1, 1⟩] := by
        show (if (rg E.p.rules (0 : Int).toNat).emit = 1 then _ else _) = _
        rw [hrg]
        rfl
      rw [htoks] at hmore
      cases more with
      | nil => exact .inr ⟨_, by rw [hmore]; rfl, by show (j : Int) ≠ _; omega⟩
      | cons t more =>
        left
        rw [hmore]
        simp
end

end Pure
end Go.Proofs.Ytmccnmgaoppogab

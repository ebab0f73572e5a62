/-
  Plain mathematics: a token is sought in an input that has ended.
  Plain mathematics: how many sets there can be: of few places; of words that are told letter by letter.
  Plain mathematics: where a program that was compiled begins, and its rules.
-/
import Derived.Test.YtmccnmgaoppogabJC
namespace Go.Proofs.Ytmccnmgaoppogab
namespace Pure

section
variable {E : Env} {C : Cfg} {K : List Kd} {st : List Nat}

theorem seek_to (hF : Fresh E C) (hK : KOK K) (hS : Starts E K st) (h0 : AtK E C K st 0 C) : ∀ n : Nat, (∀ i, i < n → OnK K (wd E.s C.pos.toNat i) ∧ C.pos + (i : Int) < E.s.size ∧ (i : Int) < E.most) → ∃ D, Rch E C D ∧ AtK E C K st n D := by
  intro n
  induction n with
  | zero => intro _; exact ⟨C, .refl _, h0⟩
  | succ n ih =>
    intro h
    obtain ⟨D, h1, h2⟩ := ih (fun i hi => h i (by omega))
    have hn := h n (Nat.lt_succ_self n)
    obtain ⟨D', h3, h4⟩ := at_go hF hK hS h2 hn.1 hn.2.1 hn.2.2
    exact ⟨D', h1.trans h3, h4⟩

/-- the seeking of a token ends -/
theorem seek_end (hF : Fresh E C) (hK : KOK K) (hS : Starts E K st) (h0 : AtK E C K st 0 C) (he : E.ended = true) :
    ∃ (n : Nat) (steps ins c e : Int), Rch E C (take E (Sk E C K n (mk K E.s C.pos.toNat (n + 1)) steps ins c) e) ∧ (∀ i, i < n → OnK K (wd E.s C.pos.toNat i) ∧ C.pos + (i : Int) < E.s.size ∧ (i : Int) < E.most) ∧
      ((e = 0 ∧ (¬ OnK K (wd E.s C.pos.toNat n) ∨ (E.s.size : Int) ≤ C.pos + n)) ∨ (e = 5 ∧ OnK K (wd E.s C.pos.toNat n) ∧ C.pos + n < E.s.size ∧ E.most ≤ n)) := by
  have key : ∀ (f n : Nat), E.s.size ≤ f + C.pos.toNat + n → (∀ i, i < n → OnK K (wd E.s C.pos.toNat i) ∧ C.pos + (i : Int) < E.s.size ∧ (i : Int) < E.most) → ∃ (n : Nat) (steps ins c e : Int), Rch E C (take E (Sk E C K n (mk K E.s C.pos.toNat (n + 1)) steps ins c) e) ∧ (∀ i, i < n → OnK K (wd E.s C.pos.toNat i) ∧ C.pos + (i : Int) < E.s.size ∧ (i : Int) < E.most) ∧
      ((e = 0 ∧ (¬ OnK K (wd E.s C.pos.toNat n) ∨ (E.s.size : Int) ≤ C.pos + n)) ∨ (e = 5 ∧ OnK K (wd E.s C.pos.toNat n) ∧ C.pos + n < E.s.size ∧ E.most ≤ n)) := by
    intro f
    induction f with
    | zero =>
      intro n hn h
      obtain ⟨D, h1, h2⟩ := seek_to hF hK hS h0 n h
      have hp := hF.pos
      have hs : (E.s.size : Int) ≤ C.pos + n := by omega
      by_cases hon : OnK K (wd E.s C.pos.toNat n)
      · obtain ⟨a, b, c, hr⟩ := at_end hF hK h2 hon hs he
        exact ⟨n, a, b, c, 0, h1.trans hr, h, .inl ⟨rfl, .inr hs⟩⟩
      · obtain ⟨a, b, c, hr⟩ := at_stop hF hK h2 hon
        exact ⟨n, a, b, c, 0, h1.trans hr, h, .inl ⟨rfl, .inl hon⟩⟩
    | succ f ih =>
      intro n hn h
      obtain ⟨D, h1, h2⟩ := seek_to hF hK hS h0 n h
      by_cases hon : OnK K (wd E.s C.pos.toNat n)
      · by_cases hs : (E.s.size : Int) ≤ C.pos + n
        · obtain ⟨a, b, c, hr⟩ := at_end hF hK h2 hon hs he
          exact ⟨n, a, b, c, 0, h1.trans hr, h, .inl ⟨rfl, .inr hs⟩⟩
        · by_cases hm : E.most ≤ n
          · obtain ⟨a, b, c, hr⟩ := at_most hF hK h2 hon (by omega) hm
            exact ⟨n, a, b, c, 5, h1.trans hr, h, .inr ⟨rfl, hon, by omega, hm⟩⟩
          · refine ih (n + 1) (by omega) (fun i hi => ?_)
            by_cases e : i = n
            · subst e; exact ⟨hon, by omega, by omega⟩
            · exact h i (by omega)
      · obtain ⟨a, b, c, hr⟩ := at_stop hF hK h2 hon
        exact ⟨n, a, b, c, 0, h1.trans hr, h, .inl ⟨rfl, .inl hon⟩⟩
  exact key E.s.size 0 (by omega) (fun i hi => by omega)

/-- the last that was marked -/
theorem mk_spec (K : List Kd) (s : ByteArray) (p : Nat) : ∀ n : Nat, (mk K s p (n + 1) = (0, 0) ∧ ∀ j, 1 ≤ j → j ≤ n → RK K (wd s p j) = -1) ∨
    (∃ j, 1 ≤ j ∧ j ≤ n ∧ RK K (wd s p j) ≠ -1 ∧ mk K s p (n + 1) = (RK K (wd s p j), (j : Int)) ∧ ∀ i, j < i → i ≤ n → RK K (wd s p i) = -1) := by
  intro n
  induction n with
  | zero => exact .inl ⟨rfl, fun j h1 h2 => by omega⟩
  | succ n ih =>
    rw [mk_succ]
    by_cases c : RK K (wd s p (n + 1)) = -1
    · rw [if_neg (fun h => h.2 c)]
      rcases ih with ⟨h1, h2⟩ | ⟨j, h1, h2, h3, h4, h5⟩
      · refine .inl ⟨h1, fun j a b => ?_⟩
        by_cases e : j = n + 1
        · rw [e]; exact c
        · exact h2 j a (by omega)
      · refine .inr ⟨j, h1, by omega, h3, h4, fun i a b => ?_⟩
        by_cases e : i = n + 1
        · rw [e]; exact c
        · exact h5 i a (by omega)
    · rw [if_pos ⟨by omega, c⟩]
      exact .inr ⟨n + 1, by omega, Nat.le_refl _, c, rfl, fun i a b => by omega⟩

/-- tokens stay -/
theorem take_toks (E : Env) (C : Cfg) (e : Int) : ∃ more, (take E C e).toks = C.toks ++ more := by
  unfold take
  split
  · exact ⟨[], by simp⟩
  · split
    · exact ⟨[], by simp⟩
    · unfold took
      simp only
      split
      · exact ⟨_, rfl⟩
      · exact ⟨[], by simp⟩
theorem look_toks (E : Env) (C : Cfg) : ∀ D, (look E C = .go D → D.toks = C.toks) ∧ ∀ e, look E C = .stop D e → D.toks = C.toks := by
  intro D
  unfold look
  simp only
  refine ⟨fun h => ?_, fun e h => ?_⟩
  · split at h
    · cases h
      split <;> rfl
    · split at h
      · split at h
        · split at h <;> cases h
        · split at h
          · cases h
          · cases h; rfl
      · split at h
        · cases h
          split <;> rfl
        · split at h
          · cases h; rfl
          · cases h
  · split at h
    · cases h
    · split at h
      · split at h
        · split at h
          · cases h; rfl
          · cases h
        · split at h
          · cases h; rfl
          · cases h
      · split at h
        · cases h
        · split at h
          · cases h
          · cases h; rfl
theorem mic_toks {C D : Cfg} (h : mic E C = some D) : ∃ more, D.toks = C.toks ++ more := by
  unfold mic at h
  split at h
  · cases h
  · split at h
    · cases h
    · rename_i F hl
      cases h
      exact ⟨[], by rw [(look_toks E C _).1 hl]; simp⟩
    · rename_i F e hl
      cases h
      obtain ⟨m, hm⟩ := take_toks E F e
      exact ⟨m, by rw [hm, (look_toks E C _).2 e hl]⟩
theorem Rch.toks {D : Cfg} (h : Rch E C D) : ∃ more, D.toks = C.toks ++ more := by
  induction h with
  | refl => exact ⟨[], by simp⟩
  | step _ h2 ih =>
    obtain ⟨a, ha⟩ := ih
    obtain ⟨b, hb⟩ := mic_toks h2
    exact ⟨a ++ b, by rw [hb, ha, List.append_assoc]⟩
theorem Runs.end {D F : Cfg} (h : Runs E C D) (hr : Rch E C F) (hn : mic E F = none) : D = F := h.same ⟨hr, hn⟩
end

/-- the kinds of a mode of rules can be run -/
theorem Tells.kok {ls : List Ln} {mode : Int} {K : List Kd} (h : Tells ls mode K) : KOK K :=
  ⟨fun k hk => ⟨(h.ok.2 k hk).2.1, (h.ok.2 k hk).2.2⟩, h.zero, fun h2 => ⟨h.none h2, h.rule0⟩⟩

/-- what the kinds say is what the rules say -/
theorem Tells.first {ls : List Ln} {mode : Int} {K : List Kd} (h : Tells ls mode K) {w : List Nat} (hw : Byt w) (hne : w ≠ []) : FirstM ls mode w (RK K w) := by
  unfold RK
  split
  · rename_i hl
    exact .inl ⟨rfl, fun i x hi hm => h.lost hl w hw hne i x hi hm⟩
  · rename_i hl
    exact h.rule w hw (by omega) hne
theorem Tells.onw {ls : List Ln} {mode : Int} {K : List Kd} (h : Tells ls mode K) {w : List Nat} (hw : Byt w) : OnK K w ↔ OnW ls mode w := by
  unfold OnK
  by_cases hl : K.length ≤ 1
  · constructor
    · intro h'; exact absurd hl h'.1
    · rintro ⟨v, hne, hv, i, x, h1, h2, h3⟩
      exact absurd h3 (h.lost hl (w ++ v) (hw.append hv) (by simp [hne]) i x h1 h2)
  · rw [← h.on w hw (by omega)]
    exact ⟨fun h' => h'.2, fun h' => ⟨hl, h'⟩⟩

end Pure
end Go.Proofs.Ytmccnmgaoppogab

namespace Go.Proofs.Ytmccnmgaoppogab
namespace Pure

/- ---- sets of few places ---- -/

def encS : Nat → List Nat → Nat
  | 0, _ => 0
  | n + 1, l => 2 * encS n l + (if n ∈ l then 1 else 0)
theorem encS_lt (l : List Nat) : ∀ n, encS n l < 2 ^ n := by
  intro n
  induction n with
  | zero => exact Nat.one_pos
  | succ n ih =>
    unfold encS
    rw [Nat.pow_succ]
    split <;> omega
theorem encS_inj {l l' : List Nat} : ∀ n, encS n l = encS n l' → ∀ i, i < n → (i ∈ l ↔ i ∈ l') := by
  intro n
  induction n with
  | zero => intro _ i hi; omega
  | succ n ih =>
    intro h i hi
    unfold encS at h
    by_cases e : i = n
    · subst e
      by_cases a : i ∈ l <;> by_cases b : i ∈ l'
      · exact ⟨fun _ => b, fun _ => a⟩
      · rw [if_pos a, if_neg b] at h; omega
      · rw [if_neg a, if_pos b] at h; omega
      · exact ⟨fun h => absurd h a, fun h => absurd h b⟩
    · refine ih ?_ i (by omega)
      by_cases a : n ∈ l <;> by_cases b : n ∈ l' <;> simp [a, b] at h <;> omega
theorem asc_same : ∀ {a b : List Nat}, Asc a → Asc b → (∀ x, x ∈ a ↔ x ∈ b) → a = b := by
  intro a
  induction a with
  | nil =>
    intro b _ _ h
    cases b with
    | nil => rfl
    | cons y b => exact absurd ((h y).2 (List.mem_cons_self ..)) (by simp)
  | cons x a ih =>
    intro b ha hb h
    cases b with
    | nil => exact absurd ((h x).1 (List.mem_cons_self ..)) (by simp)
    | cons y b =>
      unfold Asc at ha hb
      rw [List.pairwise_cons] at ha hb
      have xy : x = y := by
        rcases List.mem_cons.1 ((h x).1 (List.mem_cons_self ..)) with e | e
        · exact e
        · rcases List.mem_cons.1 ((h y).2 (List.mem_cons_self ..)) with e' | e'
          · exact e'.symm
          · have := hb.1 x e
            have := ha.1 y e'
            omega
      subst xy
      rw [ih ha.2 hb.2 (fun z => ?_)]
      constructor
      · intro hz
        rcases List.mem_cons.1 ((h z).1 (List.mem_cons_of_mem _ hz)) with e | e
        · have := ha.1 z hz
          omega
        · exact e
      · intro hz
        rcases List.mem_cons.1 ((h z).2 (List.mem_cons_of_mem _ hz)) with e | e
        · have := hb.1 z hz
          omega
        · exact e

section
variable {ps : List Pl} {bg : List Nat} {k : Nat} {ss : List St}

theorem Wk.did (h : Wk ps bg k 0 ss) {i : Nat} (h2 : 2 ≤ i) (hi : i < ss.length) : ∃ j c, 1 ≤ j ∧ j < i ∧ c < 256 ∧ plS ss i = taking ps (rdy ps bg ss j) c := by
  obtain ⟨j, c, h3, h4, h5, h6⟩ := h.fr i h2 hi
  have hjk : j < k := by
    apply Classical.byContradiction
    intro hn
    have := h.zero j c (by omega)
    omega
  have := (h.led j c h3 (by omega) h5 (.inl hjk)).1
  rw [h6] at this
  exact ⟨j, c, h3, h4, h5, this⟩
theorem Wk.inl (h : Wk ps bg k 0 ss) (hp : PlsOK ps) (hb : Inl ps.length bg) {i : Nat} (h2 : 2 ≤ i) (hi : i < ss.length) : Inl ps.length (plS ss i) := by
  obtain ⟨j, c, _, _, _, e⟩ := h.did h2 hi
  rw [e]
  refine taking_inl ps c ?_
  unfold rdy
  split
  · exact hb
  · exact behind_inl hp _
theorem Wk.ne (h : Wk ps bg k 0 ss) {i : Nat} (h2 : 2 ≤ i) (hi : i < ss.length) : plS ss i ≠ [] := by
  have := h.dis 0 i (by omega) hi h2
  have p0 : plS ss 0 = [] := by unfold plS; rw [h.z0]
  rw [p0] at this
  exact fun e => this e.symm

/-- no more sets than numbers that tell them apart -/
theorem Wk.count (h : Wk ps bg k 0 ss) (f : Nat → Nat) (n : Nat) (hn : ∀ i, 2 ≤ i → i < ss.length → f i < n) (hf : ∀ i j, 2 ≤ i → i < j → j < ss.length → f i ≠ f j) : ss.length ≤ n + 2 := by
  have two := h.two
  have := nodup_len n ((List.range (ss.length - 2)).map (fun i => f (i + 2))) (nodup_of_inj (fun i j x hi hj => by
    rw [List.getElem?_map] at hi hj
    by_cases ci : i < ss.length - 2
    · by_cases cj : j < ss.length - 2
      · rw [List.getElem?_range ci] at hi
        rw [List.getElem?_range cj] at hj
        have ei : f (i + 2) = x := Option.some.inj hi
        have ej : f (j + 2) = x := Option.some.inj hj
        rcases Nat.lt_trichotomy i j with c | c | c
        · exact absurd (ei.trans ej.symm) (hf (i + 2) (j + 2) (by omega) (by omega) (by omega))
        · exact c
        · exact absurd (ej.trans ei.symm) (hf (j + 2) (i + 2) (by omega) (by omega) (by omega))
      · rw [List.getElem?_eq_none (by rw [List.length_range]; omega)] at hj
        cases hj
    · rw [List.getElem?_eq_none (by rw [List.length_range]; omega)] at hi
      cases hi)) (fun v hv => by
    obtain ⟨i, hi, rfl⟩ := List.mem_map.1 hv
    have := List.mem_range.1 hi
    exact hn (i + 2) (by omega) (by omega))
  rw [List.length_map, List.length_range] at this
  omega
end

/-- five places have at most 31 sets -/
theorem few_places (ls : List Lp) (ps : List Pl) (mode : Int) (hp : PlsOK ps) (hb : Inl ps.length (beginR ls mode)) (hl : ps.length ≤ 5) : (findS ls ps mode).length ≤ 42 := by
  obtain ⟨k, h⟩ := find_any_wk ls ps mode
  have := h.count (fun i => encS 5 (plS (findS ls ps mode) i)) 32 (fun i _ _ => encS_lt _ 5) (fun i j h2 hij hj e => by
    have a := h.inl hp hb h2 (by omega)
    have b := h.inl hp hb (show 2 ≤ j by omega) hj
    have hm := encS_inj 5 e
    refine h.dis i j hij hj (by omega) (asc_same a.1 b.1 (fun x => ?_))
    by_cases c : x < 5
    · exact hm x c
    · exact ⟨fun h => absurd (a.2 x h) (by omega), fun h => absurd (b.2 x h) (by omega)⟩)
  omega

/- ---- words told letter by letter ---- -/

theorem goW_snoc (ps : List Pl) : ∀ (w S : List Nat) (c : Nat), goW ps S (w ++ [c]) = taking ps (behindR ps (goW ps S w)) c := by
  intro w
  induction w with
  | nil => intro S c; rfl
  | cons a w ih => intro S c; exact ih _ _
theorem setW_snoc (q : List Lp × List Pl) (mode : Int) (w : List Nat) (hw : w ≠ []) (c : Nat) : setW q mode (w ++ [c]) = taking q.2 (behindR q.2 (setW q mode w)) c := by
  cases w with
  | nil => exact absurd rfl hw
  | cons a w => exact goW_snoc q.2 w _ c
theorem Wk.word {q : List Lp × List Pl} {mode : Int} {k : Nat} {ss : List St} (h : Wk q.2 (beginR q.1 mode) k 0 ss) : ∀ (n i : Nat), i ≤ n → 2 ≤ i → i < ss.length → ∃ w, w ≠ [] ∧ plS ss i = setW q mode w := by
  intro n
  induction n with
  | zero => intro i h1 h2; omega
  | succ n ih =>
    intro i h1 h2 hi
    obtain ⟨j, c, h3, h4, _, e⟩ := h.did h2 hi
    by_cases hj : j = 1
    · subst hj
      refine ⟨[c], by simp, ?_⟩
      rw [e]
      unfold rdy
      rw [if_pos rfl]
      rfl
    · obtain ⟨w, hw, ew⟩ := ih j (by omega) (by omega) (by omega)
      refine ⟨w ++ [c], by simp, ?_⟩
      rw [e, setW_snoc q mode w hw, ← ew]
      unfold rdy
      rw [if_neg hj]

/-- a pattern that is a word -/
structure Lit (a : Re) (u : List Nat) : Prop where
  leaves : a.leaves = u.length
  empt : a.empt = false
  fi : ∀ n p, Fi a n p ↔ p = n
  la : ∀ n p, La a n p ↔ p + 1 = n + u.length
  fo : ∀ n p q, Fo a n p q ↔ n ≤ p ∧ q = p + 1 ∧ q < n + u.length
  tk : ∀ n p c, Tk a n p c ↔ n ≤ p ∧ u[p - n]? = some c
  m : ∀ v, M a v ↔ v = u
theorem onlyB_iff (c x : Nat) : onlyB (c : Int) x = true ↔ x = c := by
  unfold onlyB
  rw [decide_eq_true_iff]
  omega
theorem M_pl {T : Nat → Bool} {v : List Nat} : M (.pl T) v ↔ ∃ c, v = [c] ∧ T c = true := by
  constructor
  · intro h; cases h with | pl h => exact ⟨_, rfl, h⟩
  · rintro ⟨c, rfl, h⟩; exact .pl h
theorem M_cat {a b : Re} {w : List Nat} : M (.cat a b) w ↔ ∃ u v, w = u ++ v ∧ M a u ∧ M b v := by
  constructor
  · intro h; cases h with | cat h1 h2 => exact ⟨_, _, rfl, h1, h2⟩
  · rintro ⟨u, v, rfl, h1, h2⟩; exact .cat h1 h2
theorem lit_one (c : Nat) : Lit (.pl (onlyB (c : Int))) [c] := by
  refine ⟨rfl, rfl, fun n p => Iff.rfl, fun n p => ?_, fun n p q => ?_, fun n p x => ?_, fun v => ?_⟩
  · show p = n ↔ p + 1 = n + 1; omega
  · show False ↔ n ≤ p ∧ q = p + 1 ∧ q < n + 1
    exact ⟨fun h => h.elim, fun h => by omega⟩
  · show p = n ∧ onlyB (c : Int) x = true ↔ _
    rw [onlyB_iff]
    constructor
    · rintro ⟨rfl, rfl⟩; exact ⟨Nat.le_refl _, by simp⟩
    · rintro ⟨h1, h2⟩
      have : p - n = 0 := by
        have := (List.getElem?_eq_some_iff.1 h2).1
        simpa using this
      rw [this] at h2
      have : c = x := by simpa using h2
      exact ⟨by omega, this.symm⟩
  · rw [M_pl]
    constructor
    · rintro ⟨x, rfl, h⟩; rw [(onlyB_iff c x).1 h]
    · rintro rfl; exact ⟨c, rfl, (onlyB_iff c c).2 rfl⟩
theorem Lit.pos {a : Re} {u : List Nat} (h : Lit a u) : 1 ≤ u.length := by
  cases u with
  | nil =>
    have := (M_nil a).1 ((h.m []).2 rfl)
    rw [h.empt] at this
    cases this
  | cons x u => simp
theorem lit_snoc {a : Re} {u : List Nat} (h : Lit a u) (c : Nat) : Lit (.cat a (.pl (onlyB (c : Int)))) (u ++ [c]) := by
  have h1 := lit_one c
  have hpos := h.pos
  refine ⟨?_, ?_, fun n p => ?_, fun n p => ?_, fun n p q => ?_, fun n p x => ?_, fun v => ?_⟩
  · show a.leaves + 1 = _
    rw [h.leaves, List.length_append]
    rfl
  · show (a.empt && false) = false
    simp
  · show Fi a n p ∨ (a.empt = true ∧ _) ↔ _
    rw [h.empt, h.fi]
    simp
  · show La (.pl _) (n + a.leaves) p ∨ (false = true ∧ _) ↔ _
    rw [h1.la, h.leaves, List.length_append]
    simp only [List.length_cons, List.length_nil]
    constructor
    · rintro (h | ⟨h, _⟩)
      · omega
      · cases h
    · intro h; left; omega
  · show Fo a n p q ∨ Fo (.pl _) (n + a.leaves) p q ∨ (La a n p ∧ Fi (.pl _) (n + a.leaves) q) ↔ _
    rw [h.fo, h1.fo, h.la, h1.fi, h.leaves, List.length_append]
    simp only [List.length_cons, List.length_nil]
    constructor
    · rintro (h | h | h) <;> omega
    · intro h
      by_cases e : q < n + u.length
      · left; omega
      · right; right; omega
  · show Tk a n p x ∨ Tk (.pl _) (n + a.leaves) p x ↔ _
    rw [h.tk, h1.tk, h.leaves]
    by_cases hl : p - n < u.length
    · rw [List.getElem?_append_left hl]
      constructor
      · rintro (h | h)
        · exact h
        · exfalso; omega
      · intro h; exact .inl h
    · rw [List.getElem?_append_right (by omega), List.getElem?_eq_none (l := u) (by omega)]
      constructor
      · rintro (⟨_, h⟩ | ⟨h, h'⟩)
        · cases h
        · refine ⟨by omega, ?_⟩
          rw [show p - n - u.length = p - (n + u.length) by omega]
          exact h'
      · rintro ⟨h, h'⟩
        by_cases hp : n + u.length ≤ p
        · refine .inr ⟨hp, ?_⟩
          rw [show p - (n + u.length) = p - n - u.length by omega]
          exact h'
        · have : u.length = 0 := by omega
          have : p - n - u.length = 0 := by omega
          exfalso
          omega
  · rw [M_cat]
    constructor
    · rintro ⟨u', v', rfl, h2, h3⟩
      rw [(h.m u').1 h2, (h1.m v').1 h3]
    · rintro rfl
      exact ⟨u, [c], rfl, (h.m u).2 rfl, (h1.m [c]).2 rfl⟩
theorem Lit.pa {a : Re} {u : List Nat} (h : Lit a u) {n p r : Nat} {w : List Nat} (hp : Pa a n p w r) : n ≤ p ∧ p ≤ r ∧ r < n + u.length ∧ w = (u.drop (p - n)).take (r + 1 - p) := by
  induction hp with
  | @one p c ht =>
    have := (h.tk n p c).1 ht
    have hl := (List.getElem?_eq_some_iff.1 this.2).1
    refine ⟨this.1, Nat.le_refl _, by omega, ?_⟩
    rw [show p + 1 - p = 1 by omega, List.drop_eq_getElem?_toList_append, this.2]
    rfl
  | @cons p q r c w ht hf _ ih =>
    have h1 := (h.tk n p c).1 ht
    have h2 := (h.fo n p q).1 hf
    obtain ⟨i1, i2, i3, i4⟩ := ih
    refine ⟨h1.1, by omega, i3, ?_⟩
    rw [i4, List.drop_eq_getElem?_toList_append (i := p - n), h1.2, show r + 1 - p = (r + 1 - q) + 1 by omega, show q - n = p - n + 1 by omega]
    rfl

section
variable {ls : List Ln} {q : List Lp × List Pl} {mode : Int}
theorem lit_words (hL : Lin ls q) (hlit : ∀ (k : Nat) (x : Ln), ls[k]? = some x → ∃ u, Lit x.re u) {w w' : List Nat} (hw : w ≠ []) (hw' : w' ≠ []) {r : Nat} (h : r ∈ setW q mode w) (h' : r ∈ setW q mode w') : w = w' := by
  obtain ⟨k, x, hk, _, p, hf, hp⟩ := (mem_setW hL mode w hw r).1 h
  obtain ⟨k', x', hk', _, p', hf', hp'⟩ := (mem_setW hL mode w' hw' r).1 h'
  have e := rg_same hk hk' hp.rg.2 hp'.rg.2
  subst e
  rw [hk] at hk'
  cases hk'
  obtain ⟨u, hu⟩ := hlit k x hk
  have e1 := (hu.fi _ _).1 hf
  have e2 := (hu.fi _ _).1 hf'
  subst e1
  subst e2
  rw [(hu.pa hp).2.2.2, (hu.pa hp').2.2.2]
theorem few_lits (hL : Lin ls q) (hlit : ∀ (k : Nat) (x : Ln), ls[k]? = some x → ∃ u, Lit x.re u) (hb : base ls ≤ 40) : (findS q.1 q.2 mode).length ≤ 42 := by
  obtain ⟨k, h⟩ := find_any_wk q.1 q.2 mode
  have hbg : Inl q.2.length (beginR q.1 mode) := by
    rw [hL.len]
    exact begin_inl _ hL.pts
  have hd : ∀ i, 2 ≤ i → i < (findS q.1 q.2 mode).length → (plS (findS q.1 q.2 mode) i).headD 0 ∈ plS (findS q.1 q.2 mode) i := fun i h2 hi => by
    have hne := h.ne h2 hi
    cases hx : plS (findS q.1 q.2 mode) i with
    | nil => exact absurd hx hne
    | cons a l => exact List.mem_cons_self ..
  have := h.count (fun i => (plS (findS q.1 q.2 mode) i).headD 0) (base ls) (fun i h2 hi => by
    have a := (h.inl hL.ok hbg h2 hi).2 _ (hd i h2 hi)
    rw [hL.len] at a
    exact a) (fun i j h2 hij hj e => by
    have mi := hd i h2 (by omega)
    have mj := hd j (by omega) hj
    obtain ⟨w, hw, ew⟩ := h.word i i (Nat.le_refl _) h2 (by omega)
    obtain ⟨w', hw', ew'⟩ := h.word j j (Nat.le_refl _) (by omega) hj
    have e' : (plS (findS q.1 q.2 mode) i).headD 0 = (plS (findS q.1 q.2 mode) j).headD 0 := e
    rw [e'] at mi
    generalize (plS (findS q.1 q.2 mode) j).headD 0 = r at *
    rw [ew] at mi
    rw [ew'] at mj
    have := lit_words hL hlit hw hw' mi mj
    rw [this] at ew
    exact h.dis i j hij hj (by omega) (ew.trans ew'.symm))
  omega
end

end Pure
end Go.Proofs.Ytmccnmgaoppogab

namespace Go.Proofs.Ytmccnmgaoppogab
namespace Pure

/-- the rule of a line -/
theorem rule_of (all : List Ln) {f : Nat} {x : Ln} (h : all[f]? = some x) : rg (compP all).rules f = ⟨x.emit, x.act, x.md⟩ := by
  obtain ⟨pt, h1, _⟩ := allLn_get all h
  show (rulesP (allLn all).1).getD f r0 = _
  unfold rulesP
  rw [List.getD_eq_getElem?_getD, List.getElem?_map, h1]
  rfl

/-- where a program that was compiled begins -/
theorem comp_start {all : List Ln} (h42 : ∀ j, j < nM all → (setsOf all j).length ≤ 42) {m : Nat} (hm : m < nM all) : ∃ (K : List Kd) (e : Nat), Tells all (m : Int) K ∧ ig (compP all).ents m = (e : Int) ∧ Lays (compP all).code e K := by
  have hk : (kksOf all)[m]? = some (kindsS (allLn all).1 (setsOf all m)) := by
    unfold kksOf
    rw [List.getElem?_map, List.getElem?_range hm]
    rfl
  obtain ⟨e, h1, _, h3⟩ := (comp_laid h42).at_ m _ hk
  refine ⟨_, e, kks_tell h42 hk, ?_, h3⟩
  show (layAll (kksOf all)).1.getD m 0 = _
  rw [List.getD_eq_getElem?_getD, h1]
  rfl

/-- a token is taken: what comes of it, where the rule neither pushes nor pops -/
theorem take_plain {E : Env} {C : Cfg} {r : Rule} (hm : C.marked ≠ 0) (hr : rg E.p.rules C.rule.toNat = r) (ha : r.act = 0 ∨ r.act = 1) : take E C 0 = took E.p E.s C := by
  have hw : wrong E.p E.depth C = 0 := by
    unfold wrong
    rw [hr, if_neg hm, if_neg (by omega), if_neg (by omega)]
  unfold take
  rw [if_neg (by omega), hw, if_neg (by omega)]

end Pure
end Go.Proofs.Ytmccnmgaoppogab

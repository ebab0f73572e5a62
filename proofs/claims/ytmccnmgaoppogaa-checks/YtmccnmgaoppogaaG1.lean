/-
  Plain mathematics: what a pattern matches, and what the net of its places takes.
-/
import Derived.Test.YtmccnmgaoppogaaEA
namespace Go.Proofs.Ytmccnmgaoppogaa
namespace Pure

/-- the pattern matches the word -/
inductive M : Re → List Nat → Prop where
  | pl {T : Nat → Bool} {c : Nat} : T c = true → M (.pl T) [c]
  | cat {a b : Re} {u v : List Nat} : M a u → M b v → M (.cat a b) (u ++ v)
  | altL {a b : Re} {u : List Nat} : M a u → M (.alt a b) u
  | altR {a b : Re} {u : List Nat} : M b u → M (.alt a b) u
  | star0 {a : Re} : M (.star a) []
  | starS {a : Re} {u v : List Nat} : M a u → M (.star a) v → M (.star a) (u ++ v)
  | plus {a : Re} {u v : List Nat} : M a u → M (.star a) v → M (.plus a) (u ++ v)
  | opt0 {a : Re} : M (.opt a) []
  | optS {a : Re} {u : List Nat} : M a u → M (.opt a) u

def Re.empt : Re → Bool
  | .pl _ => false
  | .cat a b => a.empt && b.empt
  | .alt a b => a.empt || b.empt
  | .star _ => true
  | .plus a => a.empt
  | .opt _ => true

theorem M.empt {re : Re} {w : List Nat} (h : M re w) : w = [] → re.empt = true := by
  induction h with
  | pl _ => intro e; cases e
  | cat _ _ iha ihb =>
    intro e
    obtain ⟨h1, h2⟩ := List.append_eq_nil_iff.1 e
    simp [Re.empt, iha h1, ihb h2]
  | altL _ ih => intro e; simp [Re.empt, ih e]
  | altR _ ih => intro e; simp [Re.empt, ih e]
  | star0 => intro _; rfl
  | starS _ _ _ _ => intro _; rfl
  | plus _ _ ih _ => intro e; exact ih (List.append_eq_nil_iff.1 e).1
  | opt0 => intro _; rfl
  | optS _ _ => intro _; rfl
theorem empt_M {re : Re} (h : re.empt = true) : M re [] := by
  induction re with
  | pl T => cases h
  | cat a b iha ihb =>
    simp only [Re.empt, Bool.and_eq_true] at h
    exact M.cat (u := []) (v := []) (iha h.1) (ihb h.2)
  | alt a b iha ihb =>
    simp only [Re.empt, Bool.or_eq_true] at h
    rcases h with h | h
    · exact .altL (iha h)
    · exact .altR (ihb h)
  | star a _ => exact .star0
  | plus a ih => exact M.plus (u := []) (v := []) (ih h) .star0
  | opt a _ => exact .opt0
theorem M_nil (re : Re) : M re [] ↔ re.empt = true := ⟨fun h => h.empt rfl, empt_M⟩

/- ---- the net: places are numbered from n on ---- -/

def Fi : Re → Nat → Nat → Prop
  | .pl _, n, p => p = n
  | .cat a b, n, p => Fi a n p ∨ (a.empt = true ∧ Fi b (n + a.leaves) p)
  | .alt a b, n, p => Fi a n p ∨ Fi b (n + a.leaves) p
  | .star a, n, p => Fi a n p
  | .plus a, n, p => Fi a n p
  | .opt a, n, p => Fi a n p
def La : Re → Nat → Nat → Prop
  | .pl _, n, p => p = n
  | .cat a b, n, p => La b (n + a.leaves) p ∨ (b.empt = true ∧ La a n p)
  | .alt a b, n, p => La a n p ∨ La b (n + a.leaves) p
  | .star a, n, p => La a n p
  | .plus a, n, p => La a n p
  | .opt a, n, p => La a n p
def Fo : Re → Nat → Nat → Nat → Prop
  | .pl _, _, _, _ => False
  | .cat a b, n, p, q => Fo a n p q ∨ Fo b (n + a.leaves) p q ∨ (La a n p ∧ Fi b (n + a.leaves) q)
  | .alt a b, n, p, q => Fo a n p q ∨ Fo b (n + a.leaves) p q
  | .star a, n, p, q => Fo a n p q ∨ (La a n p ∧ Fi a n q)
  | .plus a, n, p, q => Fo a n p q ∨ (La a n p ∧ Fi a n q)
  | .opt a, n, p, q => Fo a n p q
def Tk : Re → Nat → Nat → Nat → Prop
  | .pl T, n, p, c => p = n ∧ T c = true
  | .cat a b, n, p, c => Tk a n p c ∨ Tk b (n + a.leaves) p c
  | .alt a b, n, p, c => Tk a n p c ∨ Tk b (n + a.leaves) p c
  | .star a, n, p, c => Tk a n p c
  | .plus a, n, p, c => Tk a n p c
  | .opt a, n, p, c => Tk a n p c

def Rg (re : Re) (n p : Nat) : Prop := n ≤ p ∧ p < n + re.leaves

theorem Fi.rg {re : Re} : ∀ {n p : Nat}, Fi re n p → Rg re n p := by
  unfold Rg
  induction re with
  | pl T => intro n p h; simp [Fi, Re.leaves] at *; omega
  | cat a b iha ihb =>
    rintro n p (h | ⟨_, h⟩)
    · have := iha h; simp [Re.leaves]; omega
    · have := ihb h; simp [Re.leaves]; omega
  | alt a b iha ihb =>
    rintro n p (h | h)
    · have := iha h; simp [Re.leaves]; omega
    · have := ihb h; simp [Re.leaves]; omega
  | star a ih => intro n p h; exact ih h
  | plus a ih => intro n p h; exact ih h
  | opt a ih => intro n p h; exact ih h
theorem La.rg {re : Re} : ∀ {n p : Nat}, La re n p → Rg re n p := by
  unfold Rg
  induction re with
  | pl T => intro n p h; simp [La, Re.leaves] at *; omega
  | cat a b iha ihb =>
    rintro n p (h | ⟨_, h⟩)
    · have := ihb h; simp [Re.leaves]; omega
    · have := iha h; simp [Re.leaves]; omega
  | alt a b iha ihb =>
    rintro n p (h | h)
    · have := iha h; simp [Re.leaves]; omega
    · have := ihb h; simp [Re.leaves]; omega
  | star a ih => intro n p h; exact ih h
  | plus a ih => intro n p h; exact ih h
  | opt a ih => intro n p h; exact ih h
theorem Fo.rg {re : Re} : ∀ {n p q : Nat}, Fo re n p q → Rg re n p ∧ Rg re n q := by
  induction re with
  | pl T => intro n p q h; exact h.elim
  | cat a b iha ihb =>
    rintro n p q (h | h | ⟨h, h'⟩)
    · have := iha h; simp [Rg, Re.leaves] at *; omega
    · have := ihb h; simp [Rg, Re.leaves] at *; omega
    · have := h.rg; have := h'.rg; simp [Rg, Re.leaves] at *; omega
  | alt a b iha ihb =>
    rintro n p q (h | h)
    · have := iha h; simp [Rg, Re.leaves] at *; omega
    · have := ihb h; simp [Rg, Re.leaves] at *; omega
  | star a ih =>
    rintro n p q (h | ⟨h, h'⟩)
    · exact ih h
    · exact ⟨h.rg, h'.rg⟩
  | plus a ih =>
    rintro n p q (h | ⟨h, h'⟩)
    · exact ih h
    · exact ⟨h.rg, h'.rg⟩
  | opt a ih => intro n p q h; exact ih h
theorem Tk.rg {re : Re} : ∀ {n p c : Nat}, Tk re n p c → Rg re n p := by
  unfold Rg
  induction re with
  | pl T => intro n p c h; simp [Tk, Re.leaves] at *; omega
  | cat a b iha ihb =>
    rintro n p c (h | h)
    · have := iha h; simp [Re.leaves]; omega
    · have := ihb h; simp [Re.leaves]; omega
  | alt a b iha ihb =>
    rintro n p c (h | h)
    · have := iha h; simp [Re.leaves]; omega
    · have := ihb h; simp [Re.leaves]; omega
  | star a ih => intro n p c h; exact ih h
  | plus a ih => intro n p c h; exact ih h
  | opt a ih => intro n p c h; exact ih h

/-- from place to place -/
inductive Pa (re : Re) (n : Nat) : Nat → List Nat → Nat → Prop where
  | one {p c : Nat} : Tk re n p c → Pa re n p [c] p
  | cons {p q r c : Nat} {w : List Nat} : Tk re n p c → Fo re n p q → Pa re n q w r → Pa re n p (c :: w) r

theorem Pa.lift {a b : Re} {n m p q : Nat} {w : List Nat} (h : Pa a n p w q) (ht : ∀ p c, Tk a n p c → Tk b m p c) (hf : ∀ p q, Fo a n p q → Fo b m p q) : Pa b m p w q := by
  induction h with
  | one k => exact .one (ht _ _ k)
  | cons k k' _ ih => exact .cons (ht _ _ k) (hf _ _ k') ih
theorem Pa.append {re : Re} {n p x y q : Nat} {u v : List Nat} (h : Pa re n p u x) (hf : Fo re n x y) (h' : Pa re n y v q) : Pa re n p (u ++ v) q := by
  induction h with
  | one k => exact .cons k hf h'
  | cons k k' _ ih => exact .cons k k' (ih hf)
theorem Pa.ne {re : Re} {n p q : Nat} {w : List Nat} (h : Pa re n p w q) : w ≠ [] := by cases h <;> simp
theorem Pa.rg {re : Re} {n p q : Nat} {w : List Nat} (h : Pa re n p w q) : Rg re n p ∧ Rg re n q := by
  induction h with
  | one k => exact ⟨k.rg, k.rg⟩
  | cons k _ _ ih => exact ⟨k.rg, ih.2⟩

def Acc (re : Re) (n : Nat) (w : List Nat) : Prop := ∃ p q, Fi re n p ∧ La re n q ∧ Pa re n p w q

theorem acc_cat1 {a b : Re} {n : Nat} {u : List Nat} (h : Acc a n u) (hb : b.empt = true) : Acc (.cat a b) n u := by
  obtain ⟨p, q, h1, h2, h3⟩ := h
  exact ⟨p, q, .inl h1, .inr ⟨hb, h2⟩, h3.lift (fun _ _ k => .inl k) (fun _ _ k => .inl k)⟩
theorem acc_cat2 {a b : Re} {n : Nat} {u : List Nat} (h : Acc b (n + a.leaves) u) (ha : a.empt = true) : Acc (.cat a b) n u := by
  obtain ⟨p, q, h1, h2, h3⟩ := h
  exact ⟨p, q, .inr ⟨ha, h1⟩, .inl h2, h3.lift (fun _ _ k => .inr k) (fun _ _ k => .inr (.inl k))⟩
theorem acc_cat {a b : Re} {n : Nat} {u v : List Nat} (h : Acc a n u) (h' : Acc b (n + a.leaves) v) : Acc (.cat a b) n (u ++ v) := by
  obtain ⟨p, q, h1, h2, h3⟩ := h
  obtain ⟨p', q', k1, k2, k3⟩ := h'
  exact ⟨p, q', .inl h1, .inl k2, (h3.lift (b := .cat a b) (m := n) (fun _ _ k => .inl k) (fun _ _ k => .inl k)).append (.inr (.inr ⟨h2, k1⟩)) (k3.lift (fun _ _ k => .inr k) (fun _ _ k => .inr (.inl k)))⟩
theorem acc_star1 {a : Re} {n : Nat} {u : List Nat} (h : Acc a n u) : Acc (.star a) n u := by
  obtain ⟨p, q, h1, h2, h3⟩ := h
  exact ⟨p, q, h1, h2, h3.lift (fun _ _ k => k) (fun _ _ k => .inl k)⟩
theorem acc_starS {a : Re} {n : Nat} {u v : List Nat} (h : Acc a n u) (h' : Acc (.star a) n v) : Acc (.star a) n (u ++ v) := by
  obtain ⟨p, q, h1, h2, h3⟩ := h
  obtain ⟨p', q', k1, k2, k3⟩ := h'
  exact ⟨p, q', h1, k2, (h3.lift (b := .star a) (m := n) (fun _ _ k => k) (fun _ _ k => .inl k)).append (.inr ⟨h2, k1⟩) k3⟩

theorem M.acc {re : Re} {w : List Nat} (h : M re w) : ∀ n, w ≠ [] → Acc re n w := by
  induction h with
  | pl h => intro n _; exact ⟨n, n, rfl, rfl, .one ⟨rfl, h⟩⟩
  | @cat a b u v h1 h2 iha ihb =>
    intro n hn
    by_cases hu : u = []
    · subst hu
      exact acc_cat2 (ihb _ hn) (h1.empt rfl)
    · by_cases hv : v = []
      · subst hv
        rw [List.append_nil]
        exact acc_cat1 (iha _ hu) (h2.empt rfl)
      · exact acc_cat (iha _ hu) (ihb _ hv)
  | altL _ ih =>
    intro n hn
    obtain ⟨p, q, h1, h2, h3⟩ := ih n hn
    exact ⟨p, q, .inl h1, .inl h2, h3.lift (fun _ _ k => .inl k) (fun _ _ k => .inl k)⟩
  | @altR a b u _ ih =>
    intro n hn
    obtain ⟨p, q, h1, h2, h3⟩ := ih (n + a.leaves) hn
    exact ⟨p, q, .inr h1, .inr h2, h3.lift (fun _ _ k => .inr k) (fun _ _ k => .inr k)⟩
  | star0 => intro n hn; exact absurd rfl hn
  | @starS a u v h1 h2 iha ihb =>
    intro n hn
    by_cases hu : u = []
    · subst hu
      exact ihb _ hn
    · by_cases hv : v = []
      · subst hv
        rw [List.append_nil]
        exact acc_star1 (iha _ hu)
      · exact acc_starS (iha _ hu) (ihb _ hv)
  | @plus a u v h1 h2 iha ihb =>
    intro n hn
    have key : Acc (.star a) n (u ++ v) := by
      by_cases hu : u = []
      · subst hu
        exact ihb _ hn
      · by_cases hv : v = []
        · subst hv
          rw [List.append_nil]
          exact acc_star1 (iha _ hu)
        · exact acc_starS (iha _ hu) (ihb _ hv)
    obtain ⟨p, q, k1, k2, k3⟩ := key
    exact ⟨p, q, k1, k2, k3.lift (fun _ _ k => k) (fun _ _ k => k)⟩
  | opt0 => intro n hn; exact absurd rfl hn
  | optS _ ih =>
    intro n hn
    obtain ⟨p, q, h1, h2, h3⟩ := ih n hn
    exact ⟨p, q, h1, h2, h3.lift (fun _ _ k => k) (fun _ _ k => k)⟩

theorem cat_split {a b : Re} {n p q : Nat} {w : List Nat} (h : Pa (.cat a b) n p w q) :
    (Rg a n p → Pa a n p w q ∨ ∃ u v x y, w = u ++ v ∧ Pa a n p u x ∧ La a n x ∧ Fi b (n + a.leaves) y ∧ Pa b (n + a.leaves) y v q) ∧ (Rg b (n + a.leaves) p → Pa b (n + a.leaves) p w q) := by
  induction h with
  | @one p c k =>
    refine ⟨fun hr => ?_, fun hr => ?_⟩
    · rcases k with k | k
      · exact .inl (.one k)
      · have := k.rg; unfold Rg at *; omega
    · rcases k with k | k
      · have := k.rg; unfold Rg at *; omega
      · exact .one k
  | @cons p p' r c w k f _ ih =>
    refine ⟨fun hr => ?_, fun hr => ?_⟩
    · have k' : Tk a n p c := by
        rcases k with k | k
        · exact k
        · have := k.rg; unfold Rg at *; omega
      rcases f with f | f | ⟨f, g⟩
      · rcases ih.1 f.rg.2 with z | ⟨u, v, x, y, rfl, z1, z2⟩
        · exact .inl (.cons k' f z)
        · exact .inr ⟨c :: u, v, x, y, rfl, .cons k' f z1, z2⟩
      · have := f.rg; unfold Rg at *; omega
      · exact .inr ⟨[c], w, p, p', rfl, .one k', f, g, ih.2 g.rg⟩
    · have k' : Tk b (n + a.leaves) p c := by
        rcases k with k | k
        · have := k.rg; unfold Rg at *; omega
        · exact k
      rcases f with f | f | ⟨f, g⟩
      · have := f.rg; unfold Rg at *; omega
      · exact .cons k' f (ih.2 f.rg.2)
      · have := f.rg; unfold Rg at *; omega
theorem alt_split {a b : Re} {n p q : Nat} {w : List Nat} (h : Pa (.alt a b) n p w q) : (Rg a n p → Pa a n p w q) ∧ (Rg b (n + a.leaves) p → Pa b (n + a.leaves) p w q) := by
  induction h with
  | @one p c k =>
    refine ⟨fun hr => ?_, fun hr => ?_⟩
    · rcases k with k | k
      · exact .one k
      · have := k.rg; unfold Rg at *; omega
    · rcases k with k | k
      · have := k.rg; unfold Rg at *; omega
      · exact .one k
  | @cons p p' r c w k f _ ih =>
    refine ⟨fun hr => ?_, fun hr => ?_⟩
    · rcases k with k | k
      · rcases f with f | f
        · exact .cons k f (ih.1 f.rg.2)
        · have := f.rg; unfold Rg at *; omega
      · have := k.rg; unfold Rg at *; omega
    · rcases k with k | k
      · have := k.rg; unfold Rg at *; omega
      · rcases f with f | f
        · have := f.rg; unfold Rg at *; omega
        · exact .cons k f (ih.2 f.rg.2)
theorem star_split {a : Re} {n p q : Nat} {w : List Nat} (h : Pa (.star a) n p w q) : Pa a n p w q ∨ ∃ u v x y, w = u ++ v ∧ Pa a n p u x ∧ La a n x ∧ Fi a n y ∧ Pa (.star a) n y v q := by
  induction h with
  | one k => exact .inl (.one k)
  | @cons p p' r c w k f g ih =>
    rcases f with f | ⟨f, f'⟩
    · rcases ih with z | ⟨u, v, x, y, rfl, z1, z2⟩
      · exact .inl (.cons k f z)
      · exact .inr ⟨c :: u, v, x, y, rfl, .cons k f z1, z2⟩
    · exact .inr ⟨[c], w, p, p', rfl, .one k, f, f', g⟩

theorem star_M {a : Re} {n : Nat} (ih : ∀ w, Acc a n w → M a w) : ∀ (k : Nat) (w : List Nat) (p q : Nat), w.length ≤ k → Fi a n p → La a n q → Pa (.star a) n p w q → ∃ u v, w = u ++ v ∧ M a u ∧ M (.star a) v := by
  intro k
  induction k with
  | zero =>
    intro w p q hk _ _ h
    exact absurd (List.eq_nil_of_length_eq_zero (by omega)) h.ne
  | succ k ihk =>
    intro w p q hk hp hq h
    rcases star_split h with z | ⟨u, v, x, y, rfl, z1, z2, z3, z4⟩
    · exact ⟨w, [], (List.append_nil _).symm, ih w ⟨p, q, hp, hq, z⟩, .star0⟩
    · have hu := z1.ne
      have hl : 0 < u.length := List.length_pos_iff.2 hu
      rw [List.length_append] at hk
      obtain ⟨u', v', rfl, m1, m2⟩ := ihk v y q (by omega) z3 hq z4
      exact ⟨u, u' ++ v', rfl, ih u ⟨p, x, hp, z2, z1⟩, .starS m1 m2⟩

theorem Acc.m {re : Re} : ∀ {n : Nat} {w : List Nat}, Acc re n w → M re w := by
  induction re with
  | pl T =>
    rintro n w ⟨p, q, h1, h2, h3⟩
    cases h3 with
    | one k => exact .pl k.2
    | cons _ f _ => exact f.elim
  | cat a b iha ihb =>
    rintro n w ⟨p, q, h1, h2, h3⟩
    rcases h1 with h1 | ⟨he, h1⟩
    · rcases (cat_split h3).1 h1.rg with z | ⟨u, v, x, y, rfl, z1, z2, z3, z4⟩
      · rcases h2 with h2 | ⟨hb, h2⟩
        · have := h2.rg; have := z.rg; unfold Rg at *; omega
        · have := M.cat (iha ⟨p, q, h1, h2, z⟩) (empt_M hb)
          rwa [List.append_nil] at this
      · rcases h2 with h2 | ⟨hb, h2⟩
        · exact .cat (iha ⟨p, x, h1, z2, z1⟩) (ihb ⟨y, q, z3, h2, z4⟩)
        · have := h2.rg; have := z4.rg; unfold Rg at *; omega
    · have z := (cat_split h3).2 h1.rg
      rcases h2 with h2 | ⟨hb, h2⟩
      · exact M.cat (u := []) (empt_M he) (ihb ⟨p, q, h1, h2, z⟩)
      · have := h2.rg; have := z.rg; unfold Rg at *; omega
  | alt a b iha ihb =>
    rintro n w ⟨p, q, h1, h2, h3⟩
    rcases h1 with h1 | h1
    · have z := (alt_split h3).1 h1.rg
      rcases h2 with h2 | h2
      · exact .altL (iha ⟨p, q, h1, h2, z⟩)
      · have := h2.rg; have := z.rg; unfold Rg at *; omega
    · have z := (alt_split h3).2 h1.rg
      rcases h2 with h2 | h2
      · have := h2.rg; have := z.rg; unfold Rg at *; omega
      · exact .altR (ihb ⟨p, q, h1, h2, z⟩)
  | star a ih =>
    rintro n w ⟨p, q, h1, h2, h3⟩
    obtain ⟨u, v, rfl, m1, m2⟩ := star_M (fun w h => ih h) w.length w p q (Nat.le_refl _) h1 h2 h3
    exact .starS m1 m2
  | plus a ih =>
    rintro n w ⟨p, q, h1, h2, h3⟩
    obtain ⟨u, v, rfl, m1, m2⟩ := star_M (fun w h => ih h) w.length w p q (Nat.le_refl _) h1 h2 (h3.lift (fun _ _ k => k) (fun _ _ k => k))
    exact .plus m1 m2
  | opt a ih =>
    rintro n w ⟨p, q, h1, h2, h3⟩
    exact .optS (ih ⟨p, q, h1, h2, h3.lift (fun _ _ k => k) (fun _ _ k => k)⟩)

/-- the net takes what the pattern matches -/
theorem M_acc (re : Re) (n : Nat) {w : List Nat} (hw : w ≠ []) : M re w ↔ Acc re n w := ⟨fun h => h.acc n hw, Acc.m⟩

/- ---- the program's places are the net ---- -/

theorem leads_nx (to : List Nat) (q p : Nat) : ∀ (fr : List Nat) (ps : List Pl), q ∈ nx (leads fr to ps) p ↔ q ∈ nx ps p ∨ (p ∈ fr ∧ p < ps.length ∧ q ∈ to) := by
  intro fr
  induction fr with
  | nil => intro ps; simp [leads]
  | cons x fr ih =>
    intro ps
    have e : leads (x :: fr) to ps = leads fr to (lead1 to ps x) := rfl
    rw [e, ih, lead1_length]
    have h1 : q ∈ nx (lead1 to ps x) p ↔ q ∈ nx ps p ∨ (x = p ∧ p < ps.length ∧ q ∈ to) := by
      unfold nx
      rw [lead1_get]
      cases hp : ps[p]? with
      | none =>
        have := List.getElem?_eq_none_iff.1 hp
        simp only [Option.map_none, List.not_mem_nil, false_or, false_iff]
        omega
      | some y =>
        have hl : p < ps.length := (List.getElem?_eq_some_iff.1 hp).1
        simp only [Option.map_some]
        split
        · rename_i hx
          simp only [un_mem, hx, hl, true_and]
        · rename_i hx
          simp [hx]
    rw [h1, List.mem_cons]
    constructor
    · rintro ((h | ⟨h, h', h''⟩) | ⟨h, h', h''⟩)
      · exact .inl h
      · exact .inr ⟨.inl h.symm, h', h''⟩
      · exact .inr ⟨.inr h, h', h''⟩
    · rintro (h | ⟨h | h, h', h''⟩)
      · exact .inl (.inl h)
      · exact .inl (.inr ⟨h.symm, h', h''⟩)
      · exact .inr ⟨h, h', h''⟩
theorem leads_tk (to : List Nat) (p c : Nat) : ∀ (fr : List Nat) (ps : List Pl), tk (leads fr to ps) p c = tk ps p c := by
  intro fr
  induction fr with
  | nil => intro ps; rfl
  | cons x fr ih =>
    intro ps
    have e : leads (x :: fr) to ps = leads fr to (lead1 to ps x) := rfl
    rw [e, ih]
    unfold tk
    rw [lead1_get]
    cases hp : ps[p]? with
    | none => rfl
    | some y =>
      simp only [Option.map_some]
      split <;> rfl

theorem part_empt (re : Re) : ∀ ps, (part re ps).1.empty = re.empt := by
  induction re with
  | pl T => intro ps; rfl
  | cat a b iha ihb => intro ps; show (_ && _) = _; rw [iha, ihb]; rfl
  | alt a b iha ihb => intro ps; show (_ || _) = _; rw [iha, ihb]; rfl
  | star a ih => intro ps; show (_ || _) = _; rw [ih]; simp [Re.empt]
  | plus a ih => intro ps; show (_ || _) = _; rw [ih]; simp [Re.empt]
  | opt a ih => intro ps; show (_ || _) = _; rw [ih]; simp [Re.empt]

structure Net (re : Re) (ps : List Pl) (r : Pt × List Pl) : Prop where
  fi : ∀ p, p ∈ r.1.first ↔ Fi re ps.length p
  la : ∀ p, p ∈ r.1.last ↔ La re ps.length p
  fo : ∀ p q, q ∈ nx r.2 p ↔ q ∈ nx ps p ∨ Fo re ps.length p q
  tk : ∀ p c, Pure.tk r.2 p c = true ↔ Pure.tk ps p c = true ∨ Tk re ps.length p c

theorem part_net (re : Re) : ∀ ps, Net re ps (part re ps) := by
  induction re with
  | pl T =>
    intro ps
    have hnew : ∀ p, (ps ++ [(⟨T, []⟩ : Pl)])[p]? = if p = ps.length then some ⟨T, []⟩ else ps[p]? := by
      intro p
      rw [List.getElem?_append]
      split
      · rw [if_neg (by omega)]
      · split
        · rename_i h
          subst h
          simp
        · rw [List.getElem?_eq_none (by simp; omega), List.getElem?_eq_none (by omega)]
    refine ⟨fun p => by simp [part, oneP, Fi], fun p => by simp [part, oneP, La], fun p q => ?_, fun p c => ?_⟩
    · show q ∈ nx (ps ++ [⟨T, []⟩]) p ↔ _
      unfold nx
      rw [hnew]
      split
      · rename_i h
        split at h
        · rename_i e
          cases h
          subst e
          simp [Fo]
        · rw [h]
          simp [Fo]
      · rename_i h
        split at h
        · cases h
        · rw [h]
          simp [Fo]
    · show Pure.tk (ps ++ [⟨T, []⟩]) p c = true ↔ _
      unfold Pure.tk
      rw [hnew]
      by_cases e : p = ps.length
      · subst e
        simp [Tk]
      · rw [if_neg e]
        simp [Tk, e]
  | cat a b iha ihb =>
    intro ps
    have ka := iha ps
    have kb := ihb (part a ps).2
    have la := part_length a ps
    have lb := part_length b (part a ps).2
    have ea := part_empt a ps
    have eb := part_empt b (part a ps).2
    obtain ⟨kf, kl, ko, kt⟩ := kb
    rw [la] at kf kl ko kt
    refine ⟨fun p => ?_, fun p => ?_, fun p q => ?_, fun p c => ?_⟩
    · show p ∈ (if (part a ps).1.empty = true then _ else _) ↔ _
      rw [ea]
      split
      · rename_i h
        rw [un_mem, ka.fi, kf]
        simp [Fi, h]
      · rename_i h
        rw [ka.fi]
        simp [Fi, h]
    · show p ∈ (if (part b _).1.empty = true then _ else _) ↔ _
      rw [eb]
      split
      · rename_i h
        rw [un_mem, ka.la, kl]
        simp only [La, h, true_and]
        exact Or.comm
      · rename_i h
        rw [kl]
        simp [La, h]
    · show q ∈ nx (leads _ _ _) p ↔ _
      rw [leads_nx, ko, ka.fo, ka.la, kf, lb, la]
      simp only [Fo]
      constructor
      · rintro (((h | h) | h) | ⟨h1, _, h2⟩)
        · exact .inl h
        · exact .inr (.inl h)
        · exact .inr (.inr (.inl h))
        · exact .inr (.inr (.inr ⟨h1, h2⟩))
      · rintro (h | h | h | ⟨h1, h2⟩)
        · exact .inl (.inl (.inl h))
        · exact .inl (.inl (.inr h))
        · exact .inl (.inr h)
        · have := h1.rg
          exact .inr ⟨h1, by unfold Rg at this; omega, h2⟩
    · show Pure.tk (leads _ _ _) p c = true ↔ _
      rw [leads_tk, kt, ka.tk]
      simp only [Tk]
      exact or_assoc
  | alt a b iha ihb =>
    intro ps
    have ka := iha ps
    have kb := ihb (part a ps).2
    have la := part_length a ps
    obtain ⟨kf, kl, ko, kt⟩ := kb
    rw [la] at kf kl ko kt
    refine ⟨fun p => ?_, fun p => ?_, fun p q => ?_, fun p c => ?_⟩
    · show p ∈ un _ _ ↔ _
      rw [un_mem, ka.fi, kf]
      rfl
    · show p ∈ un _ _ ↔ _
      rw [un_mem, ka.la, kl]
      rfl
    · show q ∈ nx (part b _).2 p ↔ _
      rw [ko, ka.fo]
      simp only [Fo]
      exact or_assoc
    · show Pure.tk (part b _).2 p c = true ↔ _
      rw [kt, ka.tk]
      simp only [Tk]
      exact or_assoc
  | star a ih =>
    intro ps
    have ka := ih ps
    have la := part_length a ps
    refine ⟨ka.fi, ka.la, fun p q => ?_, fun p c => ?_⟩
    · show q ∈ nx (leads _ _ _) p ↔ _
      rw [leads_nx, ka.fo, ka.la, ka.fi, la]
      simp only [Fo]
      constructor
      · rintro ((h | h) | ⟨h1, _, h2⟩)
        · exact .inl h
        · exact .inr (.inl h)
        · exact .inr (.inr ⟨h1, h2⟩)
      · rintro (h | h | ⟨h1, h2⟩)
        · exact .inl (.inl h)
        · exact .inl (.inr h)
        · exact .inr ⟨h1, h1.rg.2, h2⟩
    · show Pure.tk (leads _ _ _) p c = true ↔ _
      rw [leads_tk, ka.tk]
      rfl
  | plus a ih =>
    intro ps
    have ka := ih ps
    have la := part_length a ps
    refine ⟨ka.fi, ka.la, fun p q => ?_, fun p c => ?_⟩
    · show q ∈ nx (leads _ _ _) p ↔ _
      rw [leads_nx, ka.fo, ka.la, ka.fi, la]
      simp only [Fo]
      constructor
      · rintro ((h | h) | ⟨h1, _, h2⟩)
        · exact .inl h
        · exact .inr (.inl h)
        · exact .inr (.inr ⟨h1, h2⟩)
      · rintro (h | h | ⟨h1, h2⟩)
        · exact .inl (.inl h)
        · exact .inl (.inr h)
        · exact .inr ⟨h1, h1.rg.2, h2⟩
    · show Pure.tk (leads _ _ _) p c = true ↔ _
      rw [leads_tk, ka.tk]
      rfl
  | opt a ih =>
    intro ps
    have ka := ih ps
    exact ⟨ka.fi, ka.la, ka.fo, ka.tk⟩

end Pure
end Go.Proofs.Ytmccnmgaoppogaa

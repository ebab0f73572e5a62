/-
  Plain mathematics: programs that go onwards or to a Next are right; programs with one thing wrong are not.
-/
import Derived.Test.YtmccnmgaoppogaaGreatPure6
namespace Go.Proofs.YtmccnmgaoppogaaGreat
namespace Pure

/-- which of n things a raw number speaks of -/
def pk (c n : Int) : Int := (if c < 0 then -(c + 1) else c) % n
theorem pk_bd (c : Int) {n : Int} (hn : 0 < n) : 0 ≤ pk c n ∧ pk c n < n := by
  unfold pk
  exact ⟨Int.emod_nonneg _ (by omega), Int.emod_lt_of_pos _ hn⟩

/-- code whose instructions below i are finished -/
structure Made (k : Nat) (l : List Ins) (i : Nat) : Prop where
  len1 : 1 ≤ l.length
  len2 : l.length ≤ 50000
  at_ : i + 1 ≤ l.length
  last : cg l (l.length - 1) = ⟨5, 0, 0, 0⟩
  done : ∀ j, j < i → InsOK k l.length (cg l j) ∧ ((cg l j).op = 3 ∨ (cg l j).op = 4 → j < (cg l j).to ∨ (cg l (cg l j).to.toNat).op = 2)
  raw : ∀ j, i ≤ j → j < l.length → (1 ≤ (cg l j).op ∧ (cg l j).op ≤ 5) ∧ (cg l j).a = 0 ∧ (cg l j).b = 0 ∧ (cg l j).to = 0

theorem cg_set (l : List Ins) (v : Nat) (y : Ins) (k : Nat) (hv : v < l.length) : cg (l.set v y) k = if k = v then y else cg l k := getD_set l v k y i0 hv

theorem Made.step {k : Nat} {l : List Ins} {i : Nat} (h : Made k l i) (hi : i + 1 < l.length) (y : Ins) (hop : y.op = (cg l i).op) (hok : InsOK k l.length y) (ht : y.op = 3 ∨ y.op = 4 → (i : Int) < y.to ∨ (cg l y.to.toNat).op = 2) : Made k (l.set i y) (i + 1) := by
  have hi' : i < l.length := by omega
  have ops : ∀ j, (cg (l.set i y) j).op = (cg l j).op := by
    intro j
    rw [cg_set _ _ _ _ hi']
    by_cases e : j = i
    · subst e; rw [if_pos rfl, hop]
    · rw [if_neg e]
  refine ⟨by simpa using h.len1, by simpa using h.len2, by rw [List.length_set]; omega, ?_, ?_, ?_⟩
  · rw [List.length_set, cg_set _ _ _ _ hi', if_neg (by omega)]; exact h.last
  · intro j hj
    rw [ops]
    rw [ops, List.length_set, cg_set _ _ _ _ hi']
    by_cases e : j = i
    · subst e
      rw [if_pos rfl]
      exact ⟨hok, fun h' => ht (by rw [hop]; exact h')⟩
    · rw [if_neg e]
      exact h.done j (by omega)
  · intro j hj hj2
    rw [List.length_set] at hj2
    rw [cg_set _ _ _ _ hi', if_neg (by omega)]
    exact h.raw j (by omega) hj2

/-- an instruction that needs nothing -/
theorem Made.skip {k : Nat} {l : List Ins} {i : Nat} (h : Made k l i) (hi : i + 1 < l.length) (hop : (cg l i).op = 2 ∨ (cg l i).op = 5) : Made k l (i + 1) := by
  have hr := h.raw i (Nat.le_refl _) (by omega)
  refine ⟨h.len1, h.len2, hi, h.last, ?_, fun j hj hj2 => h.raw j (by omega) hj2⟩
  intro j hj
  by_cases e : j = i
  · subst e
    exact ⟨.inr (.inl ⟨hop, hr.2⟩), fun h' => by omega⟩
  · exact h.done j (by omega)

theorem Made.code {k : Nat} {l : List Ins} {i : Nat} (h : Made k l i) (hi : ¬ i + 1 < l.length) : CodeOK l k ∧ NoWay l := by
  have e : i = l.length - 1 := by have := h.at_; omega
  have hall : ∀ j, j < l.length → InsOK k l.length (cg l j) ∧ ((cg l j).op = 3 ∨ (cg l j).op = 4 → j < (cg l j).to ∨ (cg l (cg l j).to.toNat).op = 2) := by
    intro j hj
    by_cases hji : j = i
    · subst hji
      have := h.last
      rw [← e] at this
      rw [this]
      exact ⟨.inr (.inl ⟨.inr rfl, rfl, rfl, rfl⟩), fun h' => by simp at h'⟩
    · exact h.done j (by omega)
  have hc : CodeOK l k := ⟨⟨h.len1, h.len2⟩, fun j hj => (hall j hj).1, by rw [h.last]; exact .inr rfl⟩
  refine ⟨hc, fun x => if (cg l x).op = 2 then 0 else l.length - x, fun j hj v hv => ?_⟩
  have hv' : v < l.length := hc.tight.lt hj hv
  have hop : (cg l j).op ≠ 2 := by
    intro h2
    unfold succ fst snd at hv
    have h2' : (l.getD j i0).op = 2 := h2
    rw [if_neg (by omega), if_neg (by omega)] at hv
    simp at hv
  simp only [if_neg hop]
  by_cases h2 : (cg l v).op = 2
  · rw [if_pos h2]; omega
  · rw [if_neg h2]
    have hjv : j < v := by
      unfold succ fst snd at hv
      rw [List.mem_append] at hv
      rcases hv with hv | hv
      · split at hv
        · simp at hv; omega
        · simp at hv
      · split at hv
        · rename_i ho
          rw [List.mem_singleton] at hv
          rcases (hall j hj).2 ho with h1 | h1
          · have h1' : (j : Int) < (l.getD j i0).to := h1
            omega
          · exfalso; apply h2; rw [hv]; exact h1
        · simp at hv
    omega

/- ---- one thing wrong ---- -/

theorem bad_ent {p : Prg} (h : p.ents.length ≠ 0) (x : Int) (hx : x = p.code.length) : ¬ RightP { p with ents := p.ents.set 0 x } := by
  intro h'
  have := h'.1.2 0 (by simp; omega)
  rw [ig_set_same _ _ _ (by omega)] at this
  simp only at this
  omega
theorem bad_nil {p : Prg} : ¬ RightP { p with ents := [] } := by
  intro h'
  have := h'.1.1
  simp at this
theorem bad_rule {p : Prg} (h : p.rules.length ≠ 0) (y : Rule) (hy : ¬ RuleOK p.ents.length y) : ¬ RightP { p with rules := p.rules.set 0 y } := by
  intro h'
  have := h'.2.1.2 0 (by simp; omega)
  have e : rg (p.rules.set 0 y) 0 = y := by
    unfold rg; rw [getD_set _ _ _ _ _ (by omega), if_pos rfl]
  simp only [e] at this
  exact hy this
theorem bad_ins {p : Prg} (i : Nat) (h : i < p.code.length) (y : Ins) (hy : ¬ InsOK p.rules.length p.code.length y) : ¬ RightP { p with code := p.code.set i y } := by
  intro h'
  have := h'.2.2.1.2.1 i (by simp; omega)
  simp only [List.length_set, cg_set _ _ _ _ h, if_pos] at this
  exact hy this
theorem bad_last {p : Prg} (h : p.code.length ≠ 0) (y : Ins) (hy : y.op ≠ 4 ∧ y.op ≠ 5) : ¬ RightP { p with code := p.code.set (p.code.length - 1) y } := by
  intro h'
  have := h'.2.2.1.2.2
  simp only [List.length_set, cg_set _ _ _ _ (show p.code.length - 1 < p.code.length by omega), if_pos] at this
  omega
theorem bad_loop {p : Prg} (h : p.code.length ≠ 0) (x : Int) (hx : x = p.code.length - 1) : ¬ RightP { p with code := p.code.set (p.code.length - 1) ⟨4, 0, 0, x⟩ } := by
  intro h'
  obtain ⟨rank, hr⟩ := h'.2.2.2
  have := hr (p.code.length - 1) (by simp; omega) (p.code.length - 1) (by
    unfold succ fst snd
    have e : (p.code.set (p.code.length - 1) ⟨4, 0, 0, x⟩).getD (p.code.length - 1) i0 = ⟨4, 0, 0, x⟩ := by
      rw [getD_set _ _ _ _ _ (by omega), if_pos rfl]
    simp only [e]
    simp
    omega)
  omega

end Pure
end Go.Proofs.YtmccnmgaoppogaaGreat

/-
  Plain mathematics: what ends is told, step by step.
-/
import Derived.Test.YtmccnmgaoppogaaGreatPure4
namespace Go.Proofs.YtmccnmgaoppogaaGreat
namespace Pure

def bg (e : List Bool) (i : Nat) : Bool := e.getD i false

theorem ends1 {l : List Ins} {e : List Bool} {i : Nat} (h : (cg l i).op = 1) : endsB l e i = bg e (i + 1) := by
  unfold endsB succ fst snd
  have h' : (l.getD i i0).op = 1 := h
  rw [if_pos (.inl h'), if_neg (by omega)]
  simp [bg]
theorem ends3 {l : List Ins} {e : List Bool} {i : Nat} (h : (cg l i).op = 3) : endsB l e i = (bg e (i + 1) && bg e (cg l i).to.toNat) := by
  unfold endsB succ fst snd
  have h' : (l.getD i i0).op = 3 := h
  rw [if_pos (.inr h'), if_pos (.inl h')]
  simp [bg, cg]
theorem ends4 {l : List Ins} {e : List Bool} {i : Nat} (h : (cg l i).op = 4) : endsB l e i = bg e (cg l i).to.toNat := by
  unfold endsB succ fst snd
  have h' : (l.getD i i0).op = 4 := h
  rw [if_neg (by omega), if_pos (.inr h')]
  simp [bg, cg]
theorem ends0 {l : List Ins} {e : List Bool} {i : Nat} (h1 : (cg l i).op ≠ 1) (h3 : (cg l i).op ≠ 3) (h4 : (cg l i).op ≠ 4) : endsB l e i = true := by
  unfold endsB succ fst snd
  have h1' : (l.getD i i0).op ≠ 1 := h1
  have h3' : (l.getD i i0).op ≠ 3 := h3
  have h4' : (l.getD i i0).op ≠ 4 := h4
  rw [if_neg (by simp only [not_or]; exact ⟨h1', h3'⟩), if_neg (by simp only [not_or]; exact ⟨h3', h4'⟩)]
  rfl

def Quiet (l : List Ins) (e : List Bool) (k : Nat) : Prop := ∀ i, i < l.length → i < k → bg e i = true ∨ endsB l e i = false

theorem quiet_zero (l : List Ins) (e : List Bool) : Quiet l e 0 := fun i _ h => by omega
theorem quiet_on {l : List Ins} {e : List Bool} {k : Nat} (h : Quiet l e k) (hk : bg e k = true ∨ endsB l e k = false) : Quiet l e (k + 1) := fun i hi hk' => by
  by_cases e' : i = k
  · subst e'; exact hk
  · exact h i hi (by omega)
theorem quiet_past {l : List Ins} {e : List Bool} {k : Nat} (h : Quiet l e k) (hk : l.length ≤ k) : Quiet l e (k + 1) := fun i hi _ => h i hi (by omega)

/-- what holds in a pass: L0 were left at its beginning -/
structure Pass (l : List Ins) (e : List Bool) (more : Bool) (k L0 : Nat) : Prop where
  len : e.length = l.length
  sound : Sound l e
  le : e.count false ≤ L0
  lt : more = true → e.count false < L0
  quiet : more = false → Quiet l e k

theorem pass_start {l : List Ins} {e : List Bool} (hl : e.length = l.length) (hs : Sound l e) : Pass l e false 0 (e.count false) :=
  ⟨hl, hs, Nat.le_refl _, fun h => Bool.noConfusion h, fun _ => quiet_zero l e⟩

theorem pass_skip {l : List Ins} {e : List Bool} {more : Bool} {k L0 : Nat} (h : Pass l e more k L0) (hk : k < l.length → bg e k = true ∨ endsB l e k = false) : Pass l e more (k + 1) L0 :=
  ⟨h.len, h.sound, h.le, h.lt, fun hm => by
    by_cases hkl : k < l.length
    · exact quiet_on (h.quiet hm) (hk hkl)
    · exact quiet_past (h.quiet hm) (by omega)⟩

theorem pass_set {l : List Ins} {e : List Bool} {more : Bool} {k i L0 : Nat} (h : Pass l e more k L0) (hi : i < l.length) (hf : bg e i = false) (hb : endsB l e i = true) : Pass l (e.set i true) true (k + 1) L0 ∧ (e.set i true).count false + 1 = e.count false := by
  have hi' : i < e.length := by rw [h.len]; exact hi
  have hc := count_set hi' hf
  have hle := h.le
  exact ⟨⟨by rw [List.length_set]; exact h.len, sound_set h.sound hi' hf hb, by omega, fun _ => by omega, fun hm => Bool.noConfusion hm⟩, hc⟩

theorem pass_end {l : List Ins} {e : List Bool} {k L0 : Nat} (ht : Tight l) (h : Pass l e false k L0) (hk : 2 * l.length ≤ k) : (((e.count false : Nat) : Int) == 0) = true ↔ NoWay l := by
  rw [beq_iff_eq]
  constructor
  · intro h0
    exact sound_done h.len h.sound (by omega)
  · intro hn
    have := stuck ht h.len (fun i hi => h.quiet rfl i hi (by omega)) hn
    omega

theorem count_le (e : List Bool) : e.count false ≤ e.length := List.count_le_length

end Pure
end Go.Proofs.YtmccnmgaoppogaaGreat

/-
  Plain mathematics: the bytes of an image.
-/
import Derived.Test.YtmccnmgaoppogaaGreatPure5
namespace Go.Proofs.YtmccnmgaoppogaaGreat
namespace Pure

def eb (e : Int) : List Int := [e % 256, e / 256]
def ruleB (r : Rule) : List Int := [r.emit, r.act, r.mode]
def insB (x : Ins) : List Int := [x.op, x.a, x.b, x.to % 256, x.to / 256]
def hdr4 (p : Prg) : List Int := [87, 82, (p.ents.length : Int), (p.rules.length : Int)]
def wA (p : Prg) (k : Nat) : List Int := (hdr4 p ++ eb p.code.length) ++ (p.ents.take k).flatMap eb
def wB (p : Prg) (k : Nat) : List Int := wA p p.ents.length ++ (p.rules.take k).flatMap ruleB
def wC (p : Prg) (k : Nat) : List Int := wB p p.rules.length ++ (p.code.take k).flatMap insB
def img (p : Prg) : List Int := wC p p.code.length

theorem flat_step {α : Type} (f : α → List Int) (l : List α) (d : α) (k : Nat) (hk : k < l.length) : (l.take (k + 1)).flatMap f = (l.take k).flatMap f ++ f (l.getD k d) := by
  rw [List.take_succ_eq_append_getElem hk, List.flatMap_append]
  simp [List.getD_eq_getElem?_getD, hk]

theorem flat_len {α : Type} (f : α → List Int) (c : Nat) (hf : ∀ x, (f x).length = c) : ∀ (l : List α), (l.flatMap f).length = c * l.length
  | [] => by simp
  | x :: r => by
    rw [List.flatMap_cons, List.length_append, hf, flat_len f c hf r, List.length_cons, Nat.mul_succ]; omega

theorem wA_zero (p : Prg) : wA p 0 = hdr4 p ++ eb p.code.length := by simp [wA]
theorem wB_zero (p : Prg) : wB p 0 = wA p p.ents.length := by simp [wB]
theorem wC_zero (p : Prg) : wC p 0 = wB p p.rules.length := by simp [wC]
theorem wA_step (p : Prg) (k : Nat) (hk : k < p.ents.length) : wA p (k + 1) = wA p k ++ [ig p.ents k % 256, ig p.ents k / 256] := by
  unfold wA; rw [flat_step eb p.ents 0 k hk, ← List.append_assoc]; rfl
theorem wB_step (p : Prg) (k : Nat) (hk : k < p.rules.length) : wB p (k + 1) = wB p k ++ [(rg p.rules k).emit, (rg p.rules k).act, (rg p.rules k).mode] := by
  unfold wB; rw [flat_step ruleB p.rules r0 k hk, ← List.append_assoc]; rfl
theorem wC_step (p : Prg) (k : Nat) (hk : k < p.code.length) : wC p (k + 1) = wC p k ++ [(cg p.code k).op, (cg p.code k).a, (cg p.code k).b, (cg p.code k).to % 256, (cg p.code k).to / 256] := by
  unfold wC; rw [flat_step insB p.code i0 k hk, ← List.append_assoc]; rfl

theorem wA_len (p : Prg) (k : Nat) (hk : k ≤ p.ents.length) : (wA p k).length = 6 + 2 * k := by
  unfold wA
  rw [List.length_append, flat_len eb 2 (fun _ => rfl), List.length_take]
  simp [hdr4, eb]; omega
theorem wB_len (p : Prg) (k : Nat) (hk : k ≤ p.rules.length) : (wB p k).length = 6 + 2 * p.ents.length + 3 * k := by
  unfold wB
  rw [List.length_append, flat_len ruleB 3 (fun _ => rfl), List.length_take, wA_len p _ (Nat.le_refl _)]
  omega
theorem wC_len (p : Prg) (k : Nat) (hk : k ≤ p.code.length) : (wC p k).length = 6 + 2 * p.ents.length + 3 * p.rules.length + 5 * k := by
  unfold wC
  rw [List.length_append, flat_len insB 5 (fun _ => rfl), List.length_take, wB_len p _ (Nat.le_refl _)]
  omega

theorem right_ent {p : Prg} (h : RightP p) {k : Nat} (hk : k < p.ents.length) : 0 ≤ ig p.ents k ∧ ig p.ents k ≤ 65535 := by
  have h1 := h.1.2 k hk
  have h2 := h.2.2.1.1
  omega
theorem right_rule {p : Prg} (h : RightP p) {k : Nat} (hk : k < p.rules.length) : (0 ≤ (rg p.rules k).emit ∧ (rg p.rules k).emit ≤ 255) ∧ (0 ≤ (rg p.rules k).act ∧ (rg p.rules k).act ≤ 255) ∧ (0 ≤ (rg p.rules k).mode ∧ (rg p.rules k).mode ≤ 255) := by
  have h1 := h.2.1.2 k hk
  have h2 := h.1.1
  unfold RuleOK at h1
  omega
theorem right_ins {p : Prg} (h : RightP p) {k : Nat} (hk : k < p.code.length) : (0 ≤ (cg p.code k).op ∧ (cg p.code k).op ≤ 255) ∧ (0 ≤ (cg p.code k).a ∧ (cg p.code k).a ≤ 255) ∧ (0 ≤ (cg p.code k).b ∧ (cg p.code k).b ≤ 255) ∧ (0 ≤ (cg p.code k).to ∧ (cg p.code k).to ≤ 65535) := by
  have h1 := h.2.2.1.2.1 k hk
  have h2 := h.2.1.1
  have h3 := h.2.2.1.1
  unfold InsOK at h1
  omega

end Pure
end Go.Proofs.YtmccnmgaoppogaaGreat

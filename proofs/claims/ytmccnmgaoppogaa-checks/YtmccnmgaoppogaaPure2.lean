/-
  Plain mathematics: the followers of an instruction, as the program tells them.
-/
import Derived.Test.YtmccnmgaoppogaaPure
namespace Go.Proofs.Ytmccnmgaoppogaa
namespace Pure

def fa (x : Ins) (i : Int) : Int := if x.op = 1 ∨ x.op = 3 then i + 1 else -1
def fb (x : Ins) : Int := if x.op = 3 ∨ x.op = 4 then x.to else -1

/-- is it the number of one of b things? -/
def bel (a b : Int) : Bool := decide (0 ≤ a ∧ a < b)
theorem bel_true {a b : Int} (h : 0 ≤ a ∧ a < b) : bel a b = true := decide_eq_true h
theorem bel_false {a b : Int} (h : ¬ (0 ≤ a ∧ a < b)) : bel a b = false := decide_eq_false h
theorem of_bel {a b : Int} (h : bel a b = true) : 0 ≤ a ∧ a < b := of_decide_eq_true h
theorem of_not_bel {a b : Int} (h : bel a b = false) : ¬ (0 ≤ a ∧ a < b) := of_decide_eq_false h

def ig (l : List Int) (i : Nat) : Int := l.getD i 0
def rg (l : List Rule) (i : Nat) : Rule := l.getD i r0
def cg (l : List Ins) (i : Nat) : Ins := l.getD i i0

def EntsOK (l : List Int) (n : Nat) : Prop := (1 ≤ l.length ∧ l.length ≤ 4) ∧ ∀ i, i < l.length → 0 ≤ ig l i ∧ ig l i < n
def RulesOK (l : List Rule) (m : Nat) : Prop := (1 ≤ l.length ∧ l.length ≤ 16) ∧ ∀ i, i < l.length → RuleOK m (rg l i)
def CodeOK (l : List Ins) (k : Nat) : Prop := (1 ≤ l.length ∧ l.length ≤ 50000) ∧ (∀ i, i < l.length → InsOK k l.length (cg l i)) ∧ ((cg l (l.length - 1)).op = 4 ∨ (cg l (l.length - 1)).op = 5)
def RightP (p : Prg) : Prop := EntsOK p.ents p.code.length ∧ RulesOK p.rules p.ents.length ∧ CodeOK p.code p.rules.length ∧ NoWay p.code

theorem CodeOK.tight {l : List Ins} {k : Nat} (h : CodeOK l k) : Tight l := tight_of (k := k) h.2.1 h.2.2

theorem false_iff_of {P : Prop} (h : ¬ P) : (false = true ↔ P) := ⟨fun h' => Bool.noConfusion h', fun h' => absurd h' h⟩
theorem true_iff_of {P : Prop} (h : P) : (true = true ↔ P) := ⟨fun _ => h, fun _ => rfl⟩

theorem ents_short {l : List Int} {n : Nat} (h : ¬ (1 ≤ l.length ∧ l.length ≤ 4)) : ¬ EntsOK l n := fun h' => h h'.1
theorem ents_bad {l : List Int} {n k : Nat} (hk : k < l.length) (h : ¬ (0 ≤ ig l k ∧ ig l k < n)) : ¬ EntsOK l n := fun h' => h (h'.2 k hk)
theorem rules_short {l : List Rule} {m : Nat} (h : ¬ (1 ≤ l.length ∧ l.length ≤ 16)) : ¬ RulesOK l m := fun h' => h h'.1
theorem rules_bad {l : List Rule} {m k : Nat} (hk : k < l.length) (h : ¬ RuleOK m (rg l k)) : ¬ RulesOK l m := fun h' => h (h'.2 k hk)
theorem code_short {l : List Ins} {k : Nat} (h : ¬ (1 ≤ l.length ∧ l.length ≤ 50000)) : ¬ CodeOK l k := fun h' => h h'.1
theorem code_bad {l : List Ins} {k i : Nat} (hi : i < l.length) (h : ¬ InsOK k l.length (cg l i)) : ¬ CodeOK l k := fun h' => h (h'.2.1 i hi)
theorem code_last {l : List Ins} {k : Nat} (h : ¬ ((cg l (l.length - 1)).op = 4 ∨ (cg l (l.length - 1)).op = 5)) : ¬ CodeOK l k := fun h' => h h'.2.2

/-- all below k are well; one more -/
theorem upto_succ {P : Nat → Prop} {k : Nat} (h : ∀ j, j < k → P j) (hk : P k) : ∀ j, j < k + 1 → P j := fun j hj => by
  by_cases e : j = k
  · subst e; exact hk
  · exact h j (by omega)

end Pure
end Go.Proofs.Ytmccnmgaoppogaa

/-
  The walks: marks of a part of the document's pattern; the step of a set. (weirref)
-/
import Derived.Test.YtmccnmgaoppogaaH21
import Derived.Test.YtmccnmgaoppogaaH22
namespace Go.Proofs.Ytmccnmgaoppogaa
open Go.RowKit

theorem RetMk.congr3 {e0 : Bool} {f1 f2 f1' f2' : Nat → Bool} {gg gr gf cap n : Nat} {gs : List Nat} {fo fo' : Nat → Nat → Bool} {w w' : World} {e : Ending} (h : RetMk e0 f1 f2 gg gr gf cap n gs fo w e w') (c1 : ∀ k, f1 k = f1' k) (c2 : ∀ k, f2 k = f2' k) (c3 : ∀ i k, fo i k = fo' i k) : RetMk e0 f1' f2' gg gr gf cap n gs fo' w e w' := by
  rw [show f1' = f1 from funext (fun k => (c1 k).symm), show f2' = f2 from funext (fun k => (c2 k).symm), show fo' = fo from funext (fun i => funext (fun k => (c3 i k).symm))]
  exact h

theorem marked_any (B g i : Nat) (s : ByteArray) (ns : List Pure.Nd) (vn vl : Value) (modes down : Int) (hn : ns.length ≤ 100000) (gg gf cap : Nat) (gs : List Nat) (re : Pure.Re) : ∀ (m : Nat) (fo : Nat → Nat → Bool) (w : World), Dr B g s i ns vn vl modes down w → Gf w gg g gf cap ns.length gs fo → Pure.At ns re m →
    Calls Try.prog 104 #[.pointer (some ⟨gg, 0, none⟩), .int .i64 ((m + re.size - 1 : Nat) : Int)] w (RetMk re.empt (Pure.fiN re m) (Pure.laN re m) gg g gf cap ns.length gs (fun a c => fo a c || Pure.foN re m a c) w) := by
  induction re with
  | pl T =>
    intro m fo w hd hf hat
    have hx : ns[m]? = some ⟨1, 0, 0, T⟩ := hat 0 _ rfl
    rw [show m + (Pure.Re.pl T).size - 1 = m by simp only [Pure.Re.size]; omega]
    refine (marked_pl B g i s ns vn vl modes down hn gg gf cap gs fo T m w hd hf hx).mono (fun e w' h => ?_)
    exact RetMk.congr3 h (fun k => rfl) (fun k => rfl) (fun a c => by simp [Pure.foN])
  | cat a b iha ihb =>
    intro m fo w hd hf hat
    obtain ⟨ha, hb, hx⟩ := Pure.At.two hat
    rw [show m + (Pure.Re.cat a b).size - 1 = m + a.size + b.size by simp only [Pure.Re.size]; omega]
    refine (marked_cat B g i s ns vn vl modes down hn gg gf cap gs fo _ _ _ _ _ _ _ _ _ _ _ _ w hd hf hx (fun W d f => iha m fo W d f ha) (fun W d f => ihb (m + a.size) _ W d f hb)).mono (fun e w' h => ?_)
    exact RetMk.congr3 h (fun k => rfl) (fun k => rfl) (fun a c => by simp [Pure.foN, Bool.or_assoc])
  | alt a b iha ihb =>
    intro m fo w hd hf hat
    obtain ⟨ha, hb, hx⟩ := Pure.At.two hat
    rw [show m + (Pure.Re.alt a b).size - 1 = m + a.size + b.size by simp only [Pure.Re.size]; omega]
    refine (marked_alt B g i s ns vn vl modes down hn gg gf cap gs fo _ _ _ _ _ _ _ _ _ _ _ _ w hd hf hx (fun W d f => iha m fo W d f ha) (fun W d f => ihb (m + a.size) _ W d f hb)).mono (fun e w' h => ?_)
    exact RetMk.congr3 h (fun k => rfl) (fun k => rfl) (fun a c => by simp [Pure.foN, Bool.or_assoc])
  | star a ih =>
    intro m fo w hd hf hat
    obtain ⟨ha, hx⟩ := Pure.At.one hat
    rw [show m + (Pure.Re.star a).size - 1 = m + a.size by simp only [Pure.Re.size]; omega]
    refine (marked_un B g i s ns vn vl modes down hn gg gf cap gs fo _ _ _ _ _ _ _ _ w hd hf hx (.inl rfl) (fun W d f => ih m fo W d f ha)).mono (fun e w' h => ?_)
    have := RetMk.congr3 h (fun k => rfl) (fun k => rfl) (fo' := fun x c => fo x c || Pure.foN (.star a) m x c) (fun a c => by simp [Pure.foN, Bool.or_assoc])
    rwa [show (a.empt || decide ((4 : Nat) ≠ 5)) = (Pure.Re.star a).empt by simp [Pure.Re.empt]] at this
  | plus a ih =>
    intro m fo w hd hf hat
    obtain ⟨ha, hx⟩ := Pure.At.one hat
    rw [show m + (Pure.Re.plus a).size - 1 = m + a.size by simp only [Pure.Re.size]; omega]
    refine (marked_un B g i s ns vn vl modes down hn gg gf cap gs fo _ _ _ _ _ _ _ _ w hd hf hx (.inr (.inl rfl)) (fun W d f => ih m fo W d f ha)).mono (fun e w' h => ?_)
    have := RetMk.congr3 h (fun k => rfl) (fun k => rfl) (fo' := fun x c => fo x c || Pure.foN (.plus a) m x c) (fun a c => by simp [Pure.foN, Bool.or_assoc])
    rwa [show (a.empt || decide ((5 : Nat) ≠ 5)) = (Pure.Re.plus a).empt by simp [Pure.Re.empt]] at this
  | opt a ih =>
    intro m fo w hd hf hat
    obtain ⟨ha, hx⟩ := Pure.At.one hat
    rw [show m + (Pure.Re.opt a).size - 1 = m + a.size by simp only [Pure.Re.size]; omega]
    refine (marked_un B g i s ns vn vl modes down hn gg gf cap gs fo _ _ _ _ _ _ _ _ w hd hf hx (.inr (.inr rfl)) (fun W d f => ih m fo W d f ha)).mono (fun e w' h => ?_)
    have := RetMk.congr3 h (fun k => rfl) (fun k => rfl) (fo' := fun x c => fo x c || Pure.foN (.opt a) m x c) (fun a c => by simp [Pure.foN])
    rwa [show (a.empt || decide ((6 : Nat) ≠ 5)) = (Pure.Re.opt a).empt by simp [Pure.Re.empt]] at this

end Go.Proofs.Ytmccnmgaoppogaa

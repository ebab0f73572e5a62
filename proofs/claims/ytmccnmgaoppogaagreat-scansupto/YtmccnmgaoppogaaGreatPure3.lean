/-
  Plain mathematics: how often each instruction follows one, counted step by step.
-/
import Derived.Test.YtmccnmgaoppogaaGreatPure2
namespace Go.Proofs.YtmccnmgaoppogaaGreat
namespace Pure

def Cnt (l : List Ins) (L : List Int) (us : List Nat) : Prop := L.length = l.length ∧ ∀ v, v < l.length → ig L v = ((us.count v : Nat) : Int)

theorem cnt_start (l : List Ins) : Cnt l (List.replicate l.length 0) [] := by
  refine ⟨by simp, fun v hv => ?_⟩
  unfold ig
  simp [List.getD_eq_getElem?_getD, hv]

theorem ig_set (L : List Int) (v : Nat) (y : Int) (k : Nat) (hv : v < L.length) : ig (L.set v y) k = if k = v then y else ig L k := getD_set L v k y 0 hv

theorem Cnt.step {l : List Ins} {L : List Int} {us : List Nat} (h : Cnt l L us) {v : Nat} (hv : v < l.length) : Cnt l (L.set v (ig L v + 1)) (us ++ [v]) := by
  refine ⟨by simp [h.1], fun x hx => ?_⟩
  rw [ig_set _ _ _ _ (by rw [h.1]; exact hv), List.count_append]
  by_cases e : x = v
  · subst e; rw [if_pos rfl, h.2 x hx]; simp
  · rw [if_neg e, h.2 x hx]
    have : [v].count x = 0 := by simp [List.count_cons]; omega
    omega

theorem fst_len (x : Ins) (i : Nat) : (fst x i).length ≤ 1 := by unfold fst; split <;> simp
theorem snd_len (x : Ins) : (snd x).length ≤ 1 := by unfold snd; split <;> simp
theorem succ_len (l : List Ins) (i : Nat) : (succ l i).length ≤ 2 := by
  unfold succ; rw [List.length_append]; have := fst_len (l.getD i i0) i; have := snd_len (l.getD i i0); omega
theorem tg_len (l : List Ins) : ∀ us : List Nat, (tg l us).length ≤ 2 * us.length
  | [] => by simp [tg]
  | u :: r => by
    have := tg_len l r
    have h2 := succ_len l u
    unfold tg at this ⊢
    rw [List.flatMap_cons, List.length_append, List.length_cons]; omega

theorem nt_len (n : Nat) (T : List Nat) : (nt n T).length ≤ n := by
  unfold nt; have := List.length_filter_le (fun u => !T.contains u) (List.range n); simp at this; simpa using this

theorem Cnt.bd {l : List Ins} {L : List Int} {us : List Nat} (h : Cnt l L us) {v : Nat} (hv : v < l.length) : 0 ≤ ig L v ∧ ig L v ≤ us.length := by
  rw [h.2 v hv]
  have := List.count_le_length (a := v) (l := us)
  omega

theorem fst_yes {l : List Ins} (_ht : Tight l) {k : Nat} (_hk : k < l.length) (h : bel (fa (cg l k) k) l.length = true) : fst (cg l k) k = [(fa (cg l k) k).toNat] := by
  have := of_bel h
  unfold fa at this h ⊢
  unfold fst
  split
  · simp only [List.cons.injEq, and_true]; omega
  · rename_i h1; rw [if_neg h1] at this; omega
theorem fst_no {l : List Ins} (ht : Tight l) {k : Nat} (hk : k < l.length) (h : bel (fa (cg l k) k) l.length = false) : fst (cg l k) k = [] := by
  have h1 := of_not_bel h
  have h2 := (ht k hk).1
  unfold fst
  split
  · rename_i h3
    have := h2 h3
    unfold fa at h1
    rw [if_pos h3] at h1
    omega
  · rfl
theorem snd_yes {l : List Ins} {k : Nat} (h : bel (fb (cg l k)) l.length = true) : snd (cg l k) = [(fb (cg l k)).toNat] := by
  have := of_bel h
  unfold fb at this h ⊢
  unfold snd
  split
  · rfl
  · rename_i h1; rw [if_neg h1] at this; omega
theorem snd_no {l : List Ins} (ht : Tight l) {k : Nat} (hk : k < l.length) (h : bel (fb (cg l k)) l.length = false) : snd (cg l k) = [] := by
  have h1 := of_not_bel h
  have h2 := (ht k hk).2
  unfold snd
  split
  · rename_i h3
    have := h2 h3
    unfold fb at h1
    rw [if_pos h3] at h1
    exact absurd this h1
  · rfl

theorem tg_range_succ (l : List Ins) (k : Nat) : tg l (List.range (k + 1)) = (tg l (List.range k) ++ fst (cg l k) k) ++ snd (cg l k) := by
  unfold tg
  rw [List.range_succ, List.flatMap_append, List.append_assoc]
  simp [succ, cg]

theorem bel_nat {a : Int} {n : Nat} (h : bel a n = true) : a.toNat < n ∧ 0 ≤ a := by have := of_bel h; omega

/-- what follows the instructions below k, and the first j followers of k -/
def part (l : List Ins) (k : Nat) : Nat → List Nat
  | 0 => tg l (List.range k)
  | 1 => tg l (List.range k) ++ fst (cg l k) k
  | _ => (tg l (List.range k) ++ fst (cg l k) k) ++ snd (cg l k)

theorem part_len (l : List Ins) (k j : Nat) : (part l k j).length ≤ 2 * k + 2 := by
  have h := tg_len l (List.range k)
  have h1 := fst_len (cg l k) k
  have h2 := snd_len (cg l k)
  rw [List.length_range] at h
  match j with
  | 0 => show (tg l (List.range k)).length ≤ _; omega
  | 1 => show (tg l (List.range k) ++ fst (cg l k) k).length ≤ _; rw [List.length_append]; omega
  | _ + 2 => show ((tg l (List.range k) ++ fst (cg l k) k) ++ snd (cg l k)).length ≤ _; rw [List.length_append, List.length_append]; omega

theorem cnt_no0 {l : List Ins} {L : List Int} (ht : Tight l) {k : Nat} (hk : k < l.length) {a : Int} (ha : fa (cg l k) k = a) (h : Cnt l L (part l k 0)) (hb : bel a l.length = false) : Cnt l L (part l k 1) := by
  subst ha
  show Cnt l L (tg l (List.range k) ++ fst (cg l k) k)
  rw [fst_no ht hk hb, List.append_nil]; exact h
theorem cnt_yes0 {l : List Ins} {L : List Int} (ht : Tight l) {k : Nat} (hk : k < l.length) {a : Int} (ha : fa (cg l k) k = a) (h : Cnt l L (part l k 0)) (hb : bel a l.length = true) : Cnt l (L.set a.toNat (ig L a.toNat + 1)) (part l k 1) := by
  subst ha
  show Cnt l _ (tg l (List.range k) ++ fst (cg l k) k)
  rw [fst_yes ht hk hb]; exact h.step (bel_nat hb).1
theorem cnt_no1 {l : List Ins} {L : List Int} (ht : Tight l) {k : Nat} (hk : k < l.length) {a : Int} (ha : fb (cg l k) = a) (h : Cnt l L (part l k 1)) (hb : bel a l.length = false) : Cnt l L (part l k 2) := by
  subst ha
  show Cnt l L ((tg l (List.range k) ++ fst (cg l k) k) ++ snd (cg l k))
  rw [snd_no ht hk hb, List.append_nil]; exact h
theorem cnt_yes1 {l : List Ins} {L : List Int} {k : Nat} {a : Int} (ha : fb (cg l k) = a) (h : Cnt l L (part l k 1)) (hb : bel a l.length = true) : Cnt l (L.set a.toNat (ig L a.toNat + 1)) (part l k 2) := by
  subst ha
  show Cnt l _ ((tg l (List.range k) ++ fst (cg l k) k) ++ snd (cg l k))
  rw [snd_yes hb]; exact h.step (bel_nat hb).1
theorem part_two (l : List Ins) (k : Nat) : part l k 2 = tg l (List.range (k + 1)) := (tg_range_succ l k).symm

end Pure
end Go.Proofs.YtmccnmgaoppogaaGreat

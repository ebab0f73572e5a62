/-
  Plain mathematics: what the document keeps of rules, line by line.
-/
import Derived.Test.YtmccnmgaoppogaaG3
import Derived.Test.YtmccnmgaoppogaaH14
import Derived.Test.YtmccnmgaoppogaaF8
namespace Go.Proofs.Ytmccnmgaoppogaa
namespace Pure

structure AD (ls : List Ln) (D : DR) : Prop where
  net : NetL ls D.ns
  n : D.ls.length = ls.length
  get : ∀ (k : Nat) (x : Ln), ls[k]? = some x → D.ls[k]? = some (⟨x.mode, x.emit, x.act, x.md, ((nbase (ls.take k) + x.re.size - 1 : Nat) : Int)⟩ : DLn)
  modes : (ls = [] ∧ D.modes = 0) ∨ D.modes = nModes (allLn ls).1
  down : (D.down = -1 ∧ NoL dnL ls) ∨ ∃ i : Nat, D.down = i ∧ FirstL dnL ls i

theorem allLn_snoc (ls : List Ln) (x : Ln) : allLn (ls ++ [x]) = addLn (allLn ls) x := by simp [allLn]
theorem AD.add {ls : List Ln} {D : DR} (h : AD ls D) (x : Ln) (hx : LnB x) : AD (ls ++ [x]) (addD D x) := by
  have tk1 : ∀ {k : Nat}, k ≤ ls.length → (ls ++ [x]).take k = ls.take k := fun hk => List.take_append_of_le_length hk
  have bk : nbase ((ls ++ [x]).take ls.length) = nbase ls := by rw [tk1 (Nat.le_refl _), List.take_length]
  refine ⟨⟨fun i y hi => ?_, ?_⟩, by simp [addD, h.n], fun k y hk => ?_, ?_, ?_⟩
  · rcases snoc_get hi with ⟨hl, hi'⟩ | ⟨rfl, rfl⟩
    · rw [tk1 (by omega)]
      intro j z hz
      have := h.net.at' i y hi' j z hz
      show (D.ns ++ _)[_]? = _
      rw [List.getElem?_append_left (get_lt this)]
      exact this
    · rw [bk]
      intro j z hz
      show (D.ns ++ nodes y.re D.ns.length)[_]? = _
      rw [h.net.len, List.getElem?_append_right (by rw [h.net.len]; omega), h.net.len, show nbase ls + j - nbase ls = j by omega]
      exact hz
  · show (D.ns ++ nodes x.re D.ns.length).length = _
    rw [List.length_append, nodes_length, h.net.len, nbase_append]
    simp [nbase]
  · rcases snoc_get hk with ⟨hl, hk'⟩ | ⟨rfl, rfl⟩
    · rw [tk1 (by omega)]
      have := h.get k y hk'
      show (D.ls ++ _)[_]? = _
      rw [List.getElem?_append_left (get_lt this)]
      exact this
    · rw [bk]
      show (D.ls ++ _)[_]? = _
      rw [List.getElem?_append_right (by rw [h.n]; exact Nat.le_refl _), h.n, Nat.sub_self, ← h.net.len]
      rfl
  · refine .inr ?_
    rw [allLn_snoc]
    show dmod D.modes x = _
    have e : nModes (addLn (allLn ls) x).1 = hi1 ((allLn ls).1.foldl hi1 0) (x.lp (part x.re (allLn ls).2).1) + 1 := by
      unfold nModes addLn
      rw [List.foldl_append]
      rfl
    rw [e]
    have key : ∀ m : Int, ∀ y : Lp, y.mode = x.mode → y.md = x.md → D.modes = 0 ∧ m = 0 ∨ D.modes = m + 1 → dmod D.modes x = hi1 m y + 1 := by
      intro m y e1 e2 hm
      unfold LnB at hx
      unfold dmod dm1 hi1
      rw [e1, e2]
      rcases hm with ⟨h1, h2⟩ | h1
      · rw [h1, h2]
        split <;> split <;> split <;> (try split) <;> (try split) <;> omega
      · rw [h1]
        split <;> split <;> split <;> (try split) <;> (try split) <;> omega
    refine key _ _ rfl rfl ?_
    rcases h.modes with ⟨h1, h2⟩ | h2
    · subst h1
      exact .inl ⟨h2, rfl⟩
    · exact .inr h2
  · show (upd _ _ _ = _ ∧ _) ∨ ∃ i, upd _ _ _ = _ ∧ _
    rw [h.n]
    rcases h.down with ⟨h1, h2⟩ | ⟨i, h1, h2⟩
    · cases e : x.down with
      | false =>
        refine .inl ⟨by rw [upd_false]; exact h1, fun y hy => ?_⟩
        rcases List.mem_append.1 hy with k | k
        · exact h2 y k
        · simp at k
          subst k
          exact e
      | true =>
        refine .inr ⟨ls.length, by unfold upd; rw [if_pos ⟨rfl, by rw [h1]; decide⟩], ⟨x, by simp, e⟩, fun j y hj hy => ?_⟩
        rw [List.getElem?_append_left hj] at hy
        exact h2 y (List.mem_of_getElem? hy)
    · obtain ⟨⟨y, hy, hd⟩, hf⟩ := h2
      have il := get_lt hy
      refine .inr ⟨i, by unfold upd; rw [if_neg (by rw [h1]; omega)]; exact h1, ⟨y, by rw [List.getElem?_append_left il]; exact hy, hd⟩, fun j z hj hz => ?_⟩
      rw [List.getElem?_append_left (by omega)] at hz
      exact hf j z hj hz
theorem ad_nil : AD [] (⟨[], [], 0, -1⟩ : DR) := ⟨⟨fun i x h => by simp at h, rfl⟩, rfl, fun k x h => by simp at h, .inl ⟨rfl, rfl⟩, .inl ⟨rfl, fun x h => by simp at h⟩⟩
theorem ad_fold (r : List Ln) : ∀ (ls : List Ln) (D : DR), (∀ x ∈ r, LnB x) → AD ls D → AD (ls ++ r) (r.foldl addD D) := by
  induction r with
  | nil => intro ls D _ h; simpa using h
  | cons x r ih =>
    intro ls D hr h
    have := ih _ _ (fun y hy => hr y (List.mem_cons_of_mem _ hy)) (h.add x (hr x (List.mem_cons_self ..)))
    simpa using this
theorem allD_ad (ls : List Ln) (h : ∀ x ∈ ls, LnB x) : AD ls (allD ls) := by simpa [allD] using ad_fold ls [] _ h ad_nil
end Pure
end Go.Proofs.Ytmccnmgaoppogaa

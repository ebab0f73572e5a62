/-
  Plain mathematics: rules whose patterns are words: how they stand in a text, and what they are compiled into.
  Plain mathematics: rules whose patterns are words: each word is one token.
-/
import Derived.Test.YtmccnmgaoppogabNA
import Derived.Test.YtmccnmgaoppogabSS
namespace Go.Proofs.Ytmccnmgaoppogab
namespace Pure

/-- the bytes of a text -/
structure Holds (s : ByteArray) (l : List Nat) : Prop where
  size : s.size = l.length
  byte : ∀ (i x : Nat), l[i]? = some x → bt s i = (x : Int)
theorem Holds.at {s : ByteArray} {pre post : List Nat} {x : Nat} (h : Holds s (pre ++ x :: post)) : pkb s pre.length = (x : Int) := by
  have hx : (pre ++ x :: post)[pre.length]? = some x := by simp
  rw [pkb_bt (by rw [h.size]; simp)]
  exact h.byte _ _ hx
theorem Holds.end {s : ByteArray} {l : List Nat} (h : Holds s l) : pkb s l.length = -1 := pkb_end (by rw [h.size]; exact Nat.le_refl _)

/-- a byte, as it is told in a pattern -/
def escB (c : Nat) : List Nat := if c = 10 then [92, 110] else if c = 32 then [92, 115] else if c = 40 ∨ c = 41 ∨ c = 91 ∨ c = 93 ∨ c = 42 ∨ c = 43 ∨ c = 63 ∨ c = 124 ∨ c = 46 ∨ c = 92 then [92, c] else [c]
theorem escB_head (c : Nat) : ∃ x r, escB c = x :: r ∧ x ≠ 41 ∧ x ≠ 93 ∧ x ≠ 42 ∧ x ≠ 43 ∧ x ≠ 63 ∧ x ≠ 124 ∧ x ≠ 32 ∧ x ≠ 10 := by
  unfold escB
  split
  · exact ⟨_, _, rfl, by omega⟩
  · split
    · exact ⟨_, _, rfl, by omega⟩
    · split
      · exact ⟨_, _, rfl, by omega⟩
      · exact ⟨_, _, rfl, by omega⟩
theorem escB_len (c : Nat) : 1 ≤ (escB c).length ∧ (escB c).length ≤ 2 := by
  unfold escB
  split
  · simp
  · split
    · simp
    · split <;> simp

/-- what may stand behind an atom that no sign follows -/
def NoSign (s : ByteArray) (j : Nat) : Prop := pkb s j ≠ 42 ∧ pkb s j ≠ 43 ∧ pkb s j ≠ 63
theorem esc_atom {s : ByteArray} {pre post : List Nat} {c : Nat} (h : Holds s (pre ++ (escB c ++ post))) : P s .atom pre.length (pre.length + (escB c).length) (.pl (onlyB (c : Int))) false := by
  unfold escB at h ⊢
  by_cases c1 : c = 10
  · subst c1
    rw [if_pos rfl] at h ⊢
    have h0 : pkb s pre.length = 92 := h.at (x := 92) (post := 110 :: post)
    have h1 : pkb s (pre.length + 1) = 110 := by
      have := Holds.at (s := s) (pre := pre ++ [92]) (x := 110) (post := post) (by simpa using h)
      simpa using this
    exact .esc h0 (by rw [h1]; exact .inr (.inl ⟨rfl, rfl⟩))
  · rw [if_neg c1] at h ⊢
    by_cases c2 : c = 32
    · subst c2
      rw [if_pos rfl] at h ⊢
      have h0 : pkb s pre.length = 92 := h.at (x := 92) (post := 115 :: post)
      have h1 : pkb s (pre.length + 1) = 115 := by
        have := Holds.at (s := s) (pre := pre ++ [92]) (x := 115) (post := post) (by simpa using h)
        simpa using this
      exact .esc h0 (by rw [h1]; exact .inr (.inr ⟨rfl, rfl⟩))
    · rw [if_neg c2] at h ⊢
      by_cases c3 : c = 40 ∨ c = 41 ∨ c = 91 ∨ c = 93 ∨ c = 42 ∨ c = 43 ∨ c = 63 ∨ c = 124 ∨ c = 46 ∨ c = 92
      · rw [if_pos c3] at h ⊢
        have h0 : pkb s pre.length = 92 := h.at (x := 92) (post := c :: post)
        have h1 : pkb s (pre.length + 1) = (c : Int) := by
          have := Holds.at (s := s) (pre := pre ++ [92]) (x := c) (post := post) (by simpa using h)
          simpa using this
        refine .esc h0 ?_
        rw [h1]
        exact .inl ⟨by omega, rfl⟩
      · rw [if_neg c3] at h ⊢
        have h0 : pkb s pre.length = (c : Int) := h.at (x := c) (post := post)
        have := P.chr (s := s) (i := pre.length) (by rw [h0]; unfold BegAtom; omega) (by rw [h0]; omega) (by rw [h0]; omega) (by rw [h0]; omega) (by rw [h0]; omega)
        rw [h0] at this
        exact this

/-- a word as a pattern -/
def litGo (a : Re) (w : List Nat) : Re := w.foldl (fun (a : Re) (c : Nat) => .cat a (.pl (onlyB (c : Int)))) a
def litRe : List Nat → Re
  | [] => .pl noneB
  | c :: w => litGo (.pl (onlyB (c : Int))) w
theorem lit_go : ∀ (w u : List Nat) (a : Re), Lit a u → Lit (litGo a w) (u ++ w) := by
  intro w
  induction w with
  | nil => intro u a h; rw [List.append_nil]; exact h
  | cons c w ih =>
    intro u a h
    have := ih (u ++ [c]) _ (lit_snoc h c)
    rw [List.append_assoc] at this
    exact this
theorem lit_re {w : List Nat} (h : w ≠ []) : Lit (litRe w) w := by
  cases w with
  | nil => exact absurd rfl h
  | cons c w => exact lit_go w [c] _ (lit_one c)

/-- the byte that stands behind a letter: the next letter's first, or the blank -/
theorem behind_esc {s : ByteArray} {pre post w : List Nat} (h : Holds s (pre ++ (w.flatMap escB ++ 32 :: post))) : NoSign s pre.length ∧ (w ≠ [] → BegAtom (pkb s pre.length)) ∧ (w = [] → pkb s pre.length = 32) := by
  cases w with
  | nil =>
    have h0 : pkb s pre.length = 32 := h.at (x := 32) (post := post)
    unfold NoSign
    rw [h0]
    exact ⟨by omega, fun h => absurd rfl h, fun _ => rfl⟩
  | cons c w =>
    obtain ⟨x, r, e, hx⟩ := escB_head c
    have h0 : pkb s pre.length = (x : Int) := by
      have el : pre ++ ((c :: w).flatMap escB ++ 32 :: post) = pre ++ x :: (r ++ (w.flatMap escB ++ 32 :: post)) := by
        rw [List.flatMap_cons, e]
        simp
      rw [el] at h
      exact h.at
    unfold NoSign BegAtom
    rw [h0]
    exact ⟨by omega, fun _ => by omega, fun h => by cases h⟩

theorem flat_pre (pre w post : List Nat) (c : Nat) : pre ++ ((c :: w).flatMap escB ++ 32 :: post) = (pre ++ escB c) ++ (w.flatMap escB ++ 32 :: post) := by
  rw [List.flatMap_cons]
  simp
theorem lit_pc {s : ByteArray} {pre post w : List Nat} {c : Nat} (h : Holds s (pre ++ ((c :: w).flatMap escB ++ 32 :: post))) : P s .pc pre.length (pre.length + (escB c).length) (.pl (onlyB (c : Int))) false := by
  have h1 := h
  rw [flat_pre, List.append_assoc] at h1
  have h2 := h
  rw [flat_pre] at h2
  have nb := (behind_esc h2).1
  rw [List.length_append] at nb
  exact .pc (esc_atom h1) (.pcR0 nb.1 nb.2.1 nb.2.2)
theorem lit_brR {s : ByteArray} {post : List Nat} : ∀ (w pre : List Nat) (a : Re), Holds s (pre ++ (w.flatMap escB ++ 32 :: post)) → P s (.brR a false) pre.length (pre.length + (w.flatMap escB).length) (litGo a w) false := by
  intro w
  induction w with
  | nil =>
    intro pre a h
    have := (behind_esc h).2.2 rfl
    refine .brR0 ?_
    rw [this]
    unfold BegAtom
    omega
  | cons c w ih =>
    intro pre a h
    have hb := (behind_esc h).2.1 (by simp)
    have h2 := h
    rw [flat_pre] at h2
    have := ih (pre ++ escB c) (.cat a (.pl (onlyB (c : Int)))) h2
    rw [List.length_append] at this
    have el : pre.length + ((c :: w).flatMap escB).length = pre.length + (escB c).length + (w.flatMap escB).length := by
      rw [List.flatMap_cons, List.length_append]
      omega
    rw [el]
    exact .brR hb (lit_pc h) this
theorem lit_pa {s : ByteArray} {pre post w : List Nat} (hw : w ≠ []) (h : Holds s (pre ++ (w.flatMap escB ++ 32 :: post))) : P s .pa pre.length (pre.length + (w.flatMap escB).length) (litRe w) false := by
  cases w with
  | nil => exact absurd rfl hw
  | cons c w =>
    have h2 := h
    rw [flat_pre] at h2
    have hr := lit_brR w (pre ++ escB c) (.pl (onlyB (c : Int))) h2
    rw [List.length_append] at hr
    have el : pre.length + ((c :: w).flatMap escB).length = pre.length + (escB c).length + (w.flatMap escB).length := by
      rw [List.flatMap_cons, List.length_append]
      omega
    have h3 : pkb s (pre.length + ((c :: w).flatMap escB).length) = 32 := by
      have := Holds.at (s := s) (pre := pre ++ (c :: w).flatMap escB) (x := 32) (post := post) (by rw [List.append_assoc]; exact h)
      rwa [List.length_append] at this
    refine .pa (.br (lit_pc h) ?_) (.paR0 (by rw [h3]; omega))
    rw [el]
    exact hr

def lineB (w : List Nat) : List Nat := [97, 32] ++ (w.flatMap escB ++ [32, 101])
def lnOf (w : List Nat) : Ln := ⟨0, 1, 0, 0, litRe w, false⟩
theorem lit_line {s : ByteArray} {pre post w : List Nat} (hw : w ≠ []) (hp : post = [] ∨ ∃ r, post = 10 :: r) (h : Holds s (pre ++ (lineB w ++ post))) : LnP s pre.length (pre.length + (lineB w).length) (lnOf w) := by
  have e1 : pre ++ (lineB w ++ post) = pre ++ 97 :: (32 :: (w.flatMap escB ++ (32 :: 101 :: post))) := by unfold lineB; simp
  have e2 : pre ++ (lineB w ++ post) = (pre ++ [97]) ++ 32 :: (w.flatMap escB ++ (32 :: 101 :: post)) := by unfold lineB; simp
  have e3 : pre ++ (lineB w ++ post) = (pre ++ [97, 32]) ++ (w.flatMap escB ++ 32 :: (101 :: post)) := by unfold lineB; simp
  have e4 : pre ++ (lineB w ++ post) = (pre ++ [97, 32] ++ w.flatMap escB) ++ 32 :: (101 :: post) := by unfold lineB; simp
  have e5 : pre ++ (lineB w ++ post) = (pre ++ [97, 32] ++ w.flatMap escB ++ [32]) ++ 101 :: post := by unfold lineB; simp
  have p1 : pkb s pre.length = 97 := Holds.at (x := 97) (by rw [← e1]; exact h)
  have p2 : pkb s (pre.length + 1) = 32 := by
    have := Holds.at (s := s) (pre := pre ++ [97]) (x := 32) (by rw [← e2]; exact h)
    simpa using this
  have p3 : P s .pa (pre.length + 2) (pre.length + 2 + (w.flatMap escB).length) (litRe w) false := by
    have := lit_pa (s := s) (pre := pre ++ [97, 32]) (post := 101 :: post) hw (by rw [← e3]; exact h)
    simpa using this
  have p4 : pkb s (pre.length + 2 + (w.flatMap escB).length) = 32 := by
    have := Holds.at (s := s) (pre := pre ++ [97, 32] ++ w.flatMap escB) (x := 32) (by rw [← e4]; exact h)
    rwa [List.length_append, List.length_append] at this
  have p5 : pkb s (pre.length + 2 + (w.flatMap escB).length + 1) = 101 := by
    have := Holds.at (s := s) (pre := pre ++ [97, 32] ++ w.flatMap escB ++ [32]) (x := 101) (by rw [← e5]; exact h)
    rwa [List.length_append, List.length_append, List.length_append] at this
  have p6 : pkb s (pre.length + 2 + (w.flatMap escB).length + 1 + 1) = 10 ∨ pkb s (pre.length + 2 + (w.flatMap escB).length + 1 + 1) = -1 := by
    rcases hp with rfl | ⟨r, rfl⟩
    · right
      have := h.end
      have el : (pre ++ (lineB w ++ [])).length = pre.length + 2 + (w.flatMap escB).length + 1 + 1 := by
        unfold lineB
        simp only [List.length_append, List.length_cons, List.length_nil]
        omega
      rw [el] at this
      exact this
    · left
      have e6 : pre ++ (lineB w ++ 10 :: r) = (pre ++ [97, 32] ++ w.flatMap escB ++ [32, 101]) ++ 10 :: r := by unfold lineB; simp
      have := Holds.at (s := s) (pre := pre ++ [97, 32] ++ w.flatMap escB ++ [32, 101]) (x := 10) (post := r) (by rw [← e6]; exact h)
      rwa [List.length_append, List.length_append, List.length_append] at this
  have el : pre.length + (lineB w).length = pre.length + 2 + (w.flatMap escB).length + 1 + 1 := by
    unfold lineB
    simp only [List.length_append, List.length_cons, List.length_nil]
    omega
  rw [el]
  have ln := LnP.mk (s := s) (i := pre.length) (by rw [p1]; unfold Letter; omega) p2 p3 p4 (.plain (e := 1) (by rw [p5]; exact .inl ⟨rfl, rfl⟩) (by omega) (by omega) (by omega))
  have ex : (⟨pkb s pre.length - 97, 1, 0, 0, litRe w, false⟩ : Ln) = lnOf w := by
    rw [p1]
    rfl
  rw [ex] at ln
  exact ln

def moreB (ws : List (List Nat)) : List Nat := ws.flatMap (fun w => 10 :: lineB w)
theorem lit_lns {s : ByteArray} : ∀ (ws : List (List Nat)) (w pre : List Nat) (ls : List Ln), (∀ u ∈ w :: ws, u ≠ []) → ls.length + ws.length < 16 → Holds s (pre ++ (lineB w ++ moreB ws)) → Lns s pre.length ls (ls ++ (w :: ws).map lnOf) := by
  intro ws
  induction ws with
  | nil =>
    intro w pre ls hne _ h
    have hl := lit_line (post := moreB []) (hne w (List.mem_cons_self ..)) (.inl rfl) h
    have es : s.size = pre.length + (lineB w).length := by rw [h.size]; simp [moreB]
    rw [← es] at hl
    exact .done hl
  | cons w2 ws ih =>
    intro w pre ls hne hl h
    have em : moreB (w2 :: ws) = 10 :: (lineB w2 ++ moreB ws) := by simp [moreB]
    have h1 := lit_line (post := moreB (w2 :: ws)) (hne w (List.mem_cons_self ..)) (.inr ⟨_, em⟩) h
    have e2 : pre ++ (lineB w ++ moreB (w2 :: ws)) = (pre ++ lineB w) ++ 10 :: (lineB w2 ++ moreB ws) := by rw [em]; simp
    have e3 : pre ++ (lineB w ++ moreB (w2 :: ws)) = (pre ++ lineB w ++ [10]) ++ (lineB w2 ++ moreB ws) := by rw [em]; simp
    have p1 : pkb s (pre.length + (lineB w).length) = 10 := by
      have := Holds.at (s := s) (pre := pre ++ lineB w) (x := 10) (by rw [← e2]; exact h)
      rwa [List.length_append] at this
    have := ih w2 (pre ++ lineB w ++ [10]) (ls ++ [lnOf w]) (fun u hu => hne u (List.mem_cons_of_mem _ hu)) (by rw [List.length_append]; simp only [List.length_cons, List.length_nil] at hl ⊢; omega) (by rw [← e3]; exact h)
    rw [List.length_append, List.length_append, List.append_assoc] at this
    exact .more h1 p1 (by simp only [List.length_cons] at hl; omega) this

def textB : List (List Nat) → List Nat
  | [] => []
  | w :: ws => lineB w ++ moreB ws

/-- words that rules are made of -/
structure Wds (ws : List (List Nat)) : Prop where
  n : 1 ≤ ws.length ∧ ws.length ≤ 4
  w : ∀ u ∈ ws, u ≠ [] ∧ u.length ≤ 8 ∧ Byt u

section
variable {s : ByteArray} {ws : List (List Nat)}
theorem Wds.lns (h : Wds ws) (hs : Holds s (textB ws)) : Lns s 0 [] (ws.map lnOf) := by
  cases ws with
  | nil => have := h.n; simp at this
  | cons w ws => exact lit_lns ws w [] [] (fun u hu => (h.w u hu).1) (by have := h.n; simp at this ⊢; omega) hs
theorem lineB_len {w : List Nat} (hw : w.length ≤ 8) : (lineB w).length ≤ 20 := by
  have key : ∀ w : List Nat, (w.flatMap escB).length ≤ 2 * w.length := by
    intro w
    induction w with
    | nil => simp
    | cons c w ih =>
      have := escB_len c
      rw [List.flatMap_cons, List.length_append, List.length_cons]
      omega
  have := key w
  unfold lineB
  simp only [List.length_append, List.length_cons, List.length_nil]
  omega
theorem Wds.size (h : Wds ws) (hs : Holds s (textB ws)) : s.size ≤ 300 := by
  have key : ∀ l : List (List Nat), (∀ u ∈ l, u.length ≤ 8) → (moreB l).length ≤ 21 * l.length := by
    intro l
    induction l with
    | nil => intro _; simp [moreB]
    | cons w l ih =>
      intro hw
      have h1 := lineB_len (hw w (List.mem_cons_self ..))
      have h2 := ih (fun u hu => hw u (List.mem_cons_of_mem _ hu))
      have e : moreB (w :: l) = 10 :: lineB w ++ moreB l := by simp [moreB]
      rw [e, List.length_append, List.length_cons, List.length_cons]
      omega
  rw [hs.size]
  cases ws with
  | nil => simp [textB]
  | cons w l =>
    have h1 := lineB_len (h.w w (List.mem_cons_self ..)).2.1
    have h2 := key l (fun u hu => (h.w u (List.mem_cons_of_mem _ hu)).2.1)
    have h3 := h.n.2
    rw [List.length_cons] at h3
    unfold textB
    rw [List.length_append]
    omega
theorem Wds.down (ws : List (List Nat)) : NoL dnL (ws.map lnOf) := fun x hx => by
  obtain ⟨w, _, rfl⟩ := List.mem_map.1 hx
  rfl
theorem Wds.emp (h : Wds ws) : NoL emL (ws.map lnOf) := fun x hx => by
  obtain ⟨w, hw, rfl⟩ := List.mem_map.1 hx
  exact (lit_re (h.w w hw).1).empt
theorem Wds.lit (h : Wds ws) (k : Nat) (x : Ln) (hk : (ws.map lnOf)[k]? = some x) : ∃ u, ws[k]? = some u ∧ x = lnOf u ∧ Lit x.re u := by
  rw [List.getElem?_map] at hk
  cases hu : ws[k]? with
  | none => rw [hu] at hk; cases hk
  | some u =>
    rw [hu] at hk
    have : lnOf u = x := by simpa using hk
    subst this
    exact ⟨u, rfl, rfl, lit_re (h.w u (List.mem_of_getElem? hu)).1⟩
theorem Wds.base (h : Wds ws) : base (ws.map lnOf) ≤ 40 := by
  have key : ∀ l : List (List Nat), (∀ u ∈ l, u ≠ [] ∧ u.length ≤ 8) → Pure.base (l.map lnOf) ≤ 8 * l.length := by
    intro l
    induction l with
    | nil => intro _; simp [Pure.base]
    | cons w l ih =>
      intro hw
      have h1 := hw w (List.mem_cons_self ..)
      have h2 := ih (fun u hu => hw u (List.mem_cons_of_mem _ hu))
      have e : (lnOf w).re.leaves = w.length := (lit_re h1.1).leaves
      have e2 : Pure.base ((w :: l).map lnOf) = (lnOf w).re.leaves + Pure.base (l.map lnOf) := by simp [Pure.base]
      rw [e2, e, List.length_cons]
      omega
  have := key ws (fun u hu => ⟨(h.w u hu).1, (h.w u hu).2.1⟩)
  have := h.n.2
  omega
theorem Wds.nM (h : Wds ws) : nM (ws.map lnOf) = 1 := by
  have key : ∀ (l : List Lp), (∀ x ∈ l, x.mode = 0 ∧ x.md = 0) → l.foldl hi1 0 = 0 := by
    intro l
    induction l with
    | nil => intro _; rfl
    | cons x l ih =>
      intro hx
      have h1 := hx x (List.mem_cons_self ..)
      have : hi1 0 x = 0 := by unfold hi1; rw [h1.1, h1.2]; rfl
      rw [List.foldl_cons, this]
      exact ih (fun y hy => hx y (List.mem_cons_of_mem _ hy))
  unfold Pure.nM nModes
  rw [key _ (fun y hy => by
    obtain ⟨x, pt, hx, rfl⟩ := lp_of hy
    obtain ⟨w, _, rfl⟩ := List.mem_map.1 hx
    exact ⟨rfl, rfl⟩)]
  have := h.n
  rfl
theorem Wds.few (h : Wds ws) : ∀ j, j < Pure.nM (ws.map lnOf) → (setsOf (ws.map lnOf) j).length ≤ 42 := fun j _ =>
  few_lits (ls := ws.map lnOf) (q := allLn (ws.map lnOf)) (allLn_lin _) (fun k x hk => by obtain ⟨u, _, _, hu⟩ := h.lit k x hk; exact ⟨u, hu⟩) h.base
end

end Pure
end Go.Proofs.Ytmccnmgaoppogab

namespace Go.Proofs.Ytmccnmgaoppogab
namespace Pure

theorem wd_holds {s : ByteArray} {u : List Nat} (h : Holds s u) {n : Nat} (hn : n ≤ u.length) : wd s 0 n = u.take n := by
  apply List.ext_getElem?
  intro i
  unfold wd
  rw [List.getElem?_map]
  by_cases c : i < n
  · have hi : u[i]? = some (u[i]'(by omega)) := List.getElem?_eq_getElem (by omega)
    have hb := h.byte i _ hi
    rw [List.getElem?_range c, List.getElem?_take_of_lt c, hi]
    simp only [Option.map_some, Nat.zero_add]
    rw [hb]
    simp
  · rw [List.getElem?_eq_none (by rw [List.length_range]; omega), List.getElem?_eq_none (by rw [List.length_take]; omega)]
    rfl

theorem lit_run {ws : List (List Nat)} (hw : Wds ws) {i : Nat} {u : List Nat} (hi : ws[i]? = some u) {E : Env} (hp : E.p = compP (ws.map lnOf)) (he : E.ended = true) (hm : E.most = 64) (hs : Holds E.s u) {D : Cfg} (hR : Runs E (cfg0 E.p) D) :
    D.err = 0 ∧ ∃ f : Nat, D.toks = [⟨(f : Int), 0, (u.length : Int), 1, 1⟩] ∧ ws[f]? = some u ∧ ∀ j, j < f → ws[j]? ≠ some u := by
  have hu := hw.w u (List.mem_of_getElem? hi)
  have hpos : 1 ≤ u.length := List.length_pos_iff.2 hu.1
  obtain ⟨K, e, T, he0, hL⟩ := comp_start hw.few (m := 0) (by rw [hw.nM]; exact Nat.one_pos)
  rw [← hp] at he0 hL
  have hF : Fresh E (cfg0 E.p) := ⟨rfl, ⟨Int.le_refl _, by show (0 : Int) < E.s.size; rw [hs.size]; omega⟩, rfl, rfl, rfl⟩
  obtain ⟨st, hS, h0⟩ := at_begin hF hL (show (cfg0 E.p).ins = (e : Int) from he0)
  have hK := T.kok
  have e0 : (cfg0 E.p).pos.toNat = 0 := rfl
  have hall : (ws.map lnOf)[i]? = some (lnOf u) := by rw [List.getElem?_map, hi]; rfl
  have hmu : M (lnOf u).re u := ((lit_re hu.1).m u).2 rfl
  have hon : ∀ n, n < u.length → OnK K (wd E.s (cfg0 E.p).pos.toNat n) := fun n hn => by
    rw [e0]
    refine (T.onw (wd_byt _ _ _)).2 ⟨u.drop n, fun h => ?_, fun c hc => hu.2.2 c (List.mem_of_mem_drop hc), i, lnOf u, hall, rfl, ?_⟩
    · have := congrArg List.length h
      rw [List.length_drop] at this
      simp at this
      omega
    · rw [wd_holds hs (by omega), List.take_append_drop]
      exact hmu
  obtain ⟨D1, r1, a1⟩ := seek_to hF hK hS h0 u.length (fun n hn => ⟨hon n hn, by show (0 : Int) + (n : Int) < E.s.size; rw [hs.size]; omega, by rw [hm]; omega⟩)
  have hreach : ∃ steps ins c, Rch E (cfg0 E.p) (take E (Sk E (cfg0 E.p) K u.length (mk K E.s (cfg0 E.p).pos.toNat (u.length + 1)) steps ins c) 0) := by
    by_cases ho : OnK K (wd E.s (cfg0 E.p).pos.toNat u.length)
    · obtain ⟨a, b, c, hr⟩ := at_end hF hK a1 ho (by show (E.s.size : Int) ≤ (0 : Int) + u.length; rw [hs.size]; omega) he
      exact ⟨a, b, c, r1.trans hr⟩
    · obtain ⟨a, b, c, hr⟩ := at_stop hF hK a1 ho
      exact ⟨a, b, c, r1.trans hr⟩
  obtain ⟨steps, ins, c, hr⟩ := hreach
  have hwd : wd E.s 0 u.length = u := by rw [wd_holds hs (Nat.le_refl _), List.take_length]
  have hfirst := T.first (w := u) hu.2.2 hu.1
  have hne : RK K u ≠ -1 := fun h => hfirst.none h i _ hall rfl hmu
  rcases hfirst with ⟨h, _⟩ | ⟨f, x, hf, hx, _, hMx, hmin⟩
  · exact absurd h hne
  · have hmk : mk K E.s (cfg0 E.p).pos.toNat (u.length + 1) = ((f : Int), (u.length : Int)) := by
      rw [e0, mk_succ, hwd, if_pos ⟨hpos, hne⟩, hf]
    rw [hmk] at hr
    obtain ⟨u', hu', rfl, hlit⟩ := hw.lit f x hx
    have eu : u = u' := (hlit.m u).1 hMx
    subst eu
    have hrg : rg E.p.rules (f : Int).toNat = ⟨1, 0, 0⟩ := by
      rw [Int.toNat_natCast, hp, rule_of _ hx]
      rfl
    have htk := take_plain (E := E) (C := Sk E (cfg0 E.p) K u.length ((f : Int), (u.length : Int)) steps ins c) (by show (u.length : Int) ≠ 0; omega) hrg (.inl rfl)
    rw [htk] at hr
    have hend : mic E (took E.p E.s (Sk E (cfg0 E.p) K u.length ((f : Int), (u.length : Int)) steps ins c)) = none := by
      unfold mic
      have : (E.s.size : Int) ≤ 0 + (u.length : Int) := by rw [hs.size]; omega
      rw [if_pos (.inr this)]
    have hD := hR.end hr hend
    refine ⟨by rw [hD]; rfl, f, ?_, hu', fun j hj hc => ?_⟩
    · rw [hD]
      show (if (rg E.p.rules (f : Int).toNat).emit = 1 then _ else _) = _
      rw [hrg]
      rfl
    · exact hmin j (lnOf u) hj (by rw [List.getElem?_map, hc]; rfl) rfl hMx

end Pure
end Go.Proofs.Ytmccnmgaoppogab

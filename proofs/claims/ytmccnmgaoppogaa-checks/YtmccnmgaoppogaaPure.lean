/-
  Plain mathematics: programs as lists of numbers; when there is no way round without a Next; what two ways of finding that come to. Nothing of the program's translation is imported.
-/
namespace Go.Proofs.Ytmccnmgaoppogaa
namespace Pure

structure Ins where
  op : Int
  a : Int
  b : Int
  to : Int

structure Rule where
  emit : Int
  act : Int
  mode : Int

structure Prg where
  ents : List Int
  rules : List Rule
  code : List Ins

def i0 : Ins := ⟨0, 0, 0, 0⟩
def r0 : Rule := ⟨0, 0, 0⟩

/-- the first follower (Mark, In); the second (In, Jump) -/
def fst (x : Ins) (i : Nat) : List Nat := if x.op = 1 ∨ x.op = 3 then [i + 1] else []
def snd (x : Ins) : List Nat := if x.op = 3 ∨ x.op = 4 then [x.to.toNat] else []
def succ (l : List Ins) (i : Nat) : List Nat := fst (l.getD i i0) i ++ snd (l.getD i i0)

def NoWay (l : List Ins) : Prop := ∃ rank : Nat → Nat, ∀ i, i < l.length → ∀ j, j ∈ succ l i → rank j < rank i

def Tight (l : List Ins) : Prop := ∀ i, i < l.length →
  (((l.getD i i0).op = 1 ∨ (l.getD i i0).op = 3) → i + 1 < l.length) ∧
  (((l.getD i i0).op = 3 ∨ (l.getD i i0).op = 4) → 0 ≤ (l.getD i i0).to ∧ (l.getD i i0).to < l.length)

theorem Tight.lt {l : List Ins} (h : Tight l) {i j : Nat} (hi : i < l.length) (hj : j ∈ succ l i) : j < l.length := by
  have := h i hi
  unfold succ fst snd at hj
  rw [List.mem_append] at hj
  rcases hj with hj | hj
  · split at hj
    · rename_i h1; simp at hj; have := this.1 h1; omega
    · simp at hj
  · split at hj
    · rename_i h1; rw [List.mem_singleton] at hj; have := this.2 h1; omega
    · simp at hj

/- ---- the document's way: what ends is told, again and again ---- -/

def endsB (l : List Ins) (e : List Bool) (i : Nat) : Bool := (succ l i).all (fun j => e.getD j false)

def Sound (l : List Ins) (e : List Bool) : Prop := ∃ rank : Nat → Nat, ∀ i, i < l.length → e.getD i false = true →
  ∀ j, j ∈ succ l i → e.getD j false = true ∧ rank j < rank i

theorem getD_set {α : Type} (l : List α) (i k : Nat) (v d : α) (hi : i < l.length) : (l.set i v).getD k d = if k = i then v else l.getD k d := by
  simp only [List.getD_eq_getElem?_getD, List.getElem?_set]
  by_cases h : i = k
  · subst h; simp [hi]
  · rw [if_neg h, if_neg (fun e => h e.symm)]

theorem sound_none (l : List Ins) (n : Nat) : Sound l (List.replicate n false) := by
  refine ⟨fun _ => 0, fun i _ h => ?_⟩
  exfalso
  simp only [List.getD_eq_getElem?_getD, List.getElem?_replicate] at h
  split at h <;> simp at h

def sumR (rank : Nat → Nat) : List Nat → Nat
  | [] => 0
  | j :: r => rank j + sumR rank r

theorem le_sumR (rank : Nat → Nat) : ∀ (s : List Nat) (j : Nat), j ∈ s → rank j ≤ sumR rank s
  | x :: r, j, h => by
    rcases List.mem_cons.1 h with h | h
    · subst h; simp [sumR]
    · have := le_sumR rank r j h; simp [sumR]; omega

theorem sound_set {l : List Ins} {e : List Bool} (h : Sound l e) {i : Nat} (hi : i < e.length) (hf : e.getD i false = false) (hb : endsB l e i = true) : Sound l (e.set i true) := by
  obtain ⟨rank, hr⟩ := h
  refine ⟨fun x => if x = i then 1 + sumR rank (succ l i) else rank x, fun k hk hek j hj => ?_⟩
  rw [getD_set _ _ _ _ _ hi] at hek
  rw [getD_set _ _ _ _ _ hi]
  by_cases hki : k = i
  · subst hki
    have hj' : e.getD j false = true := by
      unfold endsB at hb; exact (List.all_eq_true.1 hb) j hj
    have hji : j ≠ k := by intro x; subst x; rw [hf] at hj'; cases hj'
    have := le_sumR rank _ j hj
    simp only [if_neg hji, if_pos]
    exact ⟨hj', by omega⟩
  · rw [if_neg hki] at hek
    have := hr k hk hek j hj
    have hji : j ≠ i := by intro x; subst x; rw [hf] at this; cases this.1
    simp only [if_neg hji, if_neg hki]
    exact this

theorem count_set {e : List Bool} : ∀ {i : Nat}, i < e.length → e.getD i false = false → (e.set i true).count false + 1 = e.count false := by
  induction e with
  | nil => intro i hi _; simp at hi
  | cons x r ih =>
    intro i hi hf
    cases i with
    | zero => simp at hf; subst hf; simp
    | succ i =>
      simp only [List.length_cons] at hi
      have := ih (i := i) (by omega) (by simpa using hf)
      simp only [List.set_cons_succ, List.count_cons]
      omega

theorem count_zero {e : List Bool} (h : e.count false = 0) {i : Nat} (hi : i < e.length) : e.getD i false = true := by
  cases hb : e.getD i false with
  | true => rfl
  | false =>
    have := count_set hi hb
    omega

theorem sound_done {l : List Ins} {e : List Bool} (hl : e.length = l.length) (h : Sound l e) (hc : e.count false = 0) : NoWay l := by
  obtain ⟨rank, hr⟩ := h
  exact ⟨rank, fun i hi j hj => (hr i hi (count_zero hc (by omega)) j hj).2⟩

theorem count_pos {e : List Bool} : e.count false ≠ 0 → ∃ i, i < e.length ∧ e.getD i false = false := by
  induction e with
  | nil => intro h; simp at h
  | cons x r ih =>
    intro h
    cases x with
    | false => exact ⟨0, by simp, by simp⟩
    | true =>
      simp at h
      have : r.count false ≠ 0 := by simpa using h
      obtain ⟨i, hi, hb⟩ := ih this
      exact ⟨i + 1, by simp; omega, by simpa using hb⟩

theorem stuck {l : List Ins} {e : List Bool} (ht : Tight l) (hl : e.length = l.length) (h : ∀ i, i < l.length → e.getD i false = true ∨ endsB l e i = false) (hn : NoWay l) : e.count false = 0 := by
  obtain ⟨rank, hr⟩ := hn
  have key : ∀ m i, i < l.length → rank i ≤ m → e.getD i false = true := by
    intro m
    induction m with
    | zero =>
      intro i hi hm
      rcases h i hi with h1 | h1
      · exact h1
      · unfold endsB at h1
        obtain ⟨j, hj, _⟩ := List.all_eq_false.1 h1
        have := hr i hi j hj
        omega
    | succ m ih =>
      intro i hi hm
      rcases h i hi with h1 | h1
      · exact h1
      · unfold endsB at h1
        obtain ⟨j, hj, hjf⟩ := List.all_eq_false.1 h1
        have h2 := hr i hi j hj
        have h3 := ih j (ht.lt hi hj) (by omega)
        exact absurd h3 hjf
  apply Classical.byContradiction
  intro hc
  obtain ⟨i, hi, hb⟩ := count_pos hc
  have := key (rank i) i (by omega) (Nat.le_refl _)
  rw [hb] at this
  cases this

/- ---- the other way: what nothing leads to is taken away ---- -/

theorem nodup_len : ∀ (n : Nat) (q : List Nat), q.Nodup → (∀ v, v ∈ q → v < n) → q.length ≤ n
  | 0, q, _, h => by
    cases q with
    | nil => simp
    | cons x r => have := h x (by simp); omega
  | n + 1, q, hd, h => by
    by_cases hm : n ∈ q
    · have := nodup_len n (q.erase n) (hd.erase n) (fun v hv => by
        have h1 := h v (List.mem_of_mem_erase hv)
        have h2 : v ≠ n := by
          intro e; subst e
          exact (List.Nodup.not_mem_erase hd) hv
        omega)
      rw [List.length_erase_of_mem hm] at this
      omega
    · have := nodup_len n q hd (fun v hv => by
        have h1 := h v hv
        have h2 : v ≠ n := by intro e; subst e; exact hm hv
        omega)
      omega

theorem all_len : ∀ (n : Nat) (q : List Nat), (∀ v, v < n → v ∈ q) → n ≤ q.length
  | 0, _, _ => Nat.zero_le _
  | n + 1, q, h => by
    have hm := h n (by omega)
    have := all_len n (q.erase n) (fun v hv => (List.mem_erase_of_ne (by omega)).2 (h v (by omega)))
    rw [List.length_erase_of_mem hm] at this
    have : 0 < q.length := List.length_pos_of_mem hm
    omega

def tg (l : List Ins) (us : List Nat) : List Nat := us.flatMap (succ l)
def nt (n : Nat) (T : List Nat) : List Nat := (List.range n).filter (fun u => !T.contains u)

theorem mem_nt {n : Nat} {T : List Nat} {u : Nat} : u ∈ nt n T ↔ u < n ∧ u ∉ T := by
  unfold nt; simp [List.mem_filter]

theorem nodup_range (n : Nat) : (List.range n).Nodup := List.nodup_range

theorem nt_nil (n : Nat) : nt n [] = List.range n := by
  unfold nt; simp

theorem count_tg_cons (l : List Ins) (u : Nat) (us : List Nat) (v : Nat) : (tg l (u :: us)).count v = (succ l u).count v + (tg l us).count v := by
  unfold tg; rw [List.flatMap_cons, List.count_append]

theorem count_tg_append (l : List Ins) (us vs : List Nat) (v : Nat) : (tg l (us ++ vs)).count v = (tg l us).count v + (tg l vs).count v := by
  unfold tg; rw [List.flatMap_append, List.count_append]

theorem count_tg_erase (l : List Ins) (v : Nat) (a : Nat) : ∀ (us : List Nat), us.Nodup → a ∈ us → (tg l us).count v = (succ l a).count v + (tg l (us.filter (fun u => u != a))).count v
  | u :: r, hd, hm => by
    have hd' := List.nodup_cons.1 hd
    by_cases h : u = a
    · subst h
      have : (u :: r).filter (fun x => x != u) = r := by
        rw [List.filter_cons]; simp
        intro x hx hxu; subst hxu; exact hd'.1 hx
      rw [this, count_tg_cons]
    · have hm' : a ∈ r := by
        rcases List.mem_cons.1 hm with e | e
        · exact absurd e.symm h
        · exact e
      have ih := count_tg_erase l v a r hd'.2 hm'
      have : (u :: r).filter (fun x => x != a) = u :: r.filter (fun x => x != a) := by
        rw [List.filter_cons]; simp [h]
      rw [this, count_tg_cons, count_tg_cons, ih]
      omega

theorem nt_snoc (n : Nat) (T : List Nat) (a : Nat) : nt n (T ++ [a]) = (nt n T).filter (fun u => u != a) := by
  unfold nt
  rw [List.filter_filter]
  apply List.filter_congr
  intro u _
  simp only [List.contains_eq_mem, List.mem_append, List.mem_singleton]
  by_cases h1 : u ∈ T <;> by_cases h2 : u = a <;> simp [h1, h2]

theorem nt_nodup (n : Nat) (T : List Nat) : (nt n T).Nodup := (nodup_range n).filter _

structure Inv (l : List Ins) (L : List Int) (q T rest : List Nat) : Prop where
  len : L.length = l.length
  nd : q.Nodup
  lt : ∀ v, v ∈ q → v < l.length
  pre : ∃ s, q = T ++ s
  cnt : ∀ v, v < l.length → L.getD v 0 = ((rest ++ tg l (nt l.length T)).count v : Nat)
  mem : ∀ v, v < l.length → (v ∈ q ↔ (rest ++ tg l (nt l.length T)).count v = 0)
  ord : ∀ a v b, q = a ++ v :: b → ∀ i, i < l.length → v ∈ succ l i → i ∈ a

theorem Inv.take {l : List Ins} {L : List Int} {T s : List Nat} {a : Nat} (h : Inv l L (T ++ a :: s) T []) : Inv l L (T ++ a :: s) (T ++ [a]) (succ l a) := by
  have ha : a < l.length := h.lt a (by simp)
  have hT : a ∉ T := by
    have := h.nd
    rw [List.nodup_append] at this
    intro hm
    exact this.2.2 a hm a (by simp) rfl
  have key : ∀ v, (succ l a ++ tg l (nt l.length (T ++ [a]))).count v = (([] : List Nat) ++ tg l (nt l.length T)).count v := by
    intro v
    rw [List.nil_append, List.count_append, nt_snoc, count_tg_erase l v a (nt l.length T) (nt_nodup _ _) (mem_nt.2 ⟨ha, hT⟩)]
  refine ⟨h.len, h.nd, h.lt, ⟨s, by simp⟩, fun v hv => ?_, fun v hv => ?_, h.ord⟩
  · rw [key]; exact h.cnt v hv
  · rw [key]; exact h.mem v hv

theorem Inv.step {l : List Ins} {L : List Int} {q T rest : List Nat} {v : Nat} (h : Inv l L q T (v :: rest)) (hv : v < l.length) (L' : List Int) (hL : L' = L.set v (L.getD v 0 - 1)) :
    (L'.getD v 0 = 0 → Inv l L' (q ++ [v]) T rest) ∧ (L'.getD v 0 ≠ 0 → Inv l L' q T rest) ∧ L.getD v 0 = ((rest ++ tg l (nt l.length T)).count v : Nat) + 1 := by
  subst hL
  have hl : v < L.length := by rw [h.len]; exact hv
  have c0 : ∀ x, ((v :: rest) ++ tg l (nt l.length T)).count x = (rest ++ tg l (nt l.length T)).count x + if v = x then 1 else 0 := by
    intro x; rw [List.cons_append, List.count_cons]
    simp
  have cv := h.cnt v hv
  rw [c0 v, if_pos rfl] at cv
  have hc : ∀ x, x < l.length → (L.set v (L.getD v 0 - 1)).getD x 0 = ((rest ++ tg l (nt l.length T)).count x : Nat) := by
    intro x hx
    rw [getD_set _ _ _ _ _ hl]
    by_cases e : x = v
    · subst e; rw [if_pos rfl, cv]; omega
    · rw [if_neg e, h.cnt x hx, c0 x, if_neg (fun y => e y.symm)]; simp
  have hvq : v ∉ q := by
    intro hm
    have := (h.mem v hv).1 hm
    rw [c0 v, if_pos rfl] at this
    omega
  have hlen : (L.set v (L.getD v 0 - 1)).length = l.length := by rw [List.length_set]; exact h.len
  refine ⟨fun hz => ?_, fun hz => ?_, by rw [cv]; omega⟩
  · rw [hc v hv] at hz
    have hz' : (rest ++ tg l (nt l.length T)).count v = 0 := by omega
    obtain ⟨s, hs⟩ := h.pre
    refine ⟨hlen, ?_, ?_, ⟨s ++ [v], by rw [hs]; simp⟩, hc, ?_, ?_⟩
    · rw [List.nodup_append]
      refine ⟨h.nd, by simp, ?_⟩
      intro a ha b hb
      simp at hb; subst hb
      intro e; subst e; exact hvq ha
    · intro x hx
      rcases List.mem_append.1 hx with hx | hx
      · exact h.lt x hx
      · simp at hx; omega
    · intro x hx
      by_cases e : x = v
      · subst e; simp [hz']
      · have := h.mem x hx
        rw [c0 x, if_neg (fun y => e y.symm)] at this
        rw [← Nat.add_zero ((rest ++ tg l (nt l.length T)).count x), ← this]
        simp [e]
    · intro a x b hq i hi hxi
      rcases List.eq_nil_or_concat b with hb | ⟨b', y, hb⟩
      · subst hb
        have h1 : q = a ∧ v = x := by
          have := List.append_inj' hq (by simp)
          exact ⟨this.1, by simpa using this.2⟩
        obtain ⟨rfl, rfl⟩ := h1
        rw [hs]
        apply Classical.byContradiction
        intro hni
        have hiT : i ∉ T := fun hm => hni (List.mem_append_left _ hm)
        have : v ∈ rest ++ tg l (nt l.length T) := by
          apply List.mem_append_right
          unfold tg
          exact List.mem_flatMap.2 ⟨i, mem_nt.2 ⟨hi, hiT⟩, hxi⟩
        exact absurd hz' (Nat.ne_of_gt (List.count_pos_iff.2 this))
      · subst hb
        have h1 : q = a ++ x :: b' := by
          rw [List.concat_eq_append, ← List.cons_append, ← List.append_assoc] at hq
          exact (List.append_inj' hq (by simp)).1
        exact h.ord a x b' h1 i hi hxi
  · refine ⟨hlen, h.nd, h.lt, h.pre, hc, ?_, h.ord⟩
    intro x hx
    by_cases e : x = v
    · subst e
      constructor
      · intro hm; exact absurd hm hvq
      · intro h0; exact absurd (by rw [hc x hx, h0]; rfl) hz
    · have := h.mem x hx
      rw [c0 x, if_neg (fun y => e y.symm)] at this
      rw [this]; omega

theorem Inv.len_le {l : List Ins} {L : List Int} {q T rest : List Nat} (h : Inv l L q T rest) : q.length ≤ l.length := nodup_len _ q h.nd h.lt

theorem idx_lt (q a b : List Nat) (v i : Nat) (hq : q = a ++ v :: b) (hn : q.Nodup) (hi : i ∈ a) : q.idxOf i < q.idxOf v := by
  subst hq
  rw [List.nodup_append] at hn
  have hva : v ∉ a := fun hm => hn.2.2 v hm v (by simp) rfl
  rw [List.idxOf_append, if_pos hi, List.idxOf_append, if_neg hva]
  have := List.idxOf_lt_length_of_mem hi
  omega

theorem Inv.done {l : List Ins} {L : List Int} {q : List Nat} (ht : Tight l) (h : Inv l L q q []) : (q.length < l.length ↔ ¬ NoWay l) := by
  constructor
  · intro hlt hn
    obtain ⟨rank, hr⟩ := hn
    obtain ⟨u, hu, huq⟩ : ∃ u, u < l.length ∧ u ∉ q := by
      apply Classical.byContradiction
      intro hno
      have := all_len l.length q (fun v hv => by
        apply Classical.byContradiction
        intro hv'
        exact hno ⟨v, hv, hv'⟩)
      omega
    have bound : ∀ x, x < l.length → rank x ≤ sumR rank (List.range l.length) := fun x hx => le_sumR rank _ x (List.mem_range.2 hx)
    have key : ∀ m x, x < l.length → x ∉ q → rank x + m = sumR rank (List.range l.length) → False := by
      intro m
      induction m using Nat.strongRecOn with
      | ind m ih =>
        intro x hx hxq hm
        have hc : (tg l (nt l.length q)).count x ≠ 0 := by
          intro h0
          exact hxq ((h.mem x hx).2 (by simpa using h0))
        have hmem : x ∈ tg l (nt l.length q) := List.count_pos_iff.1 (by omega)
        unfold tg at hmem
        obtain ⟨y, hy, hxy⟩ := List.mem_flatMap.1 hmem
        have hy' := mem_nt.1 hy
        have h1 := hr y hy'.1 x hxy
        have h2 := bound y hy'.1
        exact ih (sumR rank (List.range l.length) - rank y) (by omega) y hy'.1 hy'.2 (by omega)
    exact key (sumR rank (List.range l.length) - rank u) u hu huq (by have := bound u hu; omega)
  · intro hn
    apply Classical.byContradiction
    intro hge
    apply hn
    have hall : ∀ v, v < l.length → v ∈ q := by
      intro v hv
      apply Classical.byContradiction
      intro hm
      have := nodup_len l.length (v :: q) (List.nodup_cons.2 ⟨hm, h.nd⟩) (fun x hx => by
        rcases List.mem_cons.1 hx with e | e
        · omega
        · exact h.lt x e)
      simp at this
      omega
    refine ⟨fun x => l.length - q.idxOf x, fun i hi j hj => ?_⟩
    have hj' : j < l.length := ht.lt hi hj
    obtain ⟨a, b, hq⟩ := List.append_of_mem (hall j hj')
    have hia := h.ord a j b hq i hi hj
    have h1 := idx_lt q a b j i hq h.nd hia
    have h2 := List.idxOf_lt_length_of_mem (hall j hj')
    have h3 := h.len_le
    show l.length - q.idxOf j < l.length - q.idxOf i
    omega

theorem Inv.start {l : List Ins} {L : List Int} {q : List Nat} (hl : L.length = l.length) (hc : ∀ v, v < l.length → L.getD v 0 = ((tg l (List.range l.length)).count v : Nat))
    (hq : q = (List.range l.length).filter (fun v => L.getD v 0 == 0)) : Inv l L q [] [] := by
  subst hq
  refine ⟨hl, (nodup_range _).filter _, fun v hv => ?_, ⟨_, rfl⟩, fun v hv => ?_, fun v hv => ?_, ?_⟩
  · exact List.mem_range.1 (List.mem_filter.1 hv).1
  · rw [List.nil_append, nt_nil]; exact hc v hv
  · rw [List.nil_append, nt_nil, List.mem_filter, List.mem_range, beq_iff_eq, hc v hv]
    constructor
    · intro h; omega
    · intro h; exact ⟨hv, by omega⟩
  · intro a v b hab i hi hvi
    exfalso
    have hv : v ∈ (List.range l.length).filter (fun v => L.getD v 0 == 0) := by rw [hab]; simp
    obtain ⟨h1, h2⟩ := List.mem_filter.1 hv
    rw [beq_iff_eq, hc v (List.mem_range.1 h1)] at h2
    have : v ∈ tg l (List.range l.length) := List.mem_flatMap.2 ⟨i, List.mem_range.2 hi, hvi⟩
    have := List.count_pos_iff.2 this
    omega

/- ---- when a program is right ---- -/

def RuleOK (m : Nat) (r : Rule) : Prop := (r.emit = 0 ∨ r.emit = 1) ∧ (0 ≤ r.act ∧ r.act ≤ 3) ∧ (0 ≤ r.mode ∧ r.mode < m) ∧ (r.act = 1 ∨ r.act = 2 ∨ r.mode = 0)

def InsOK (k n : Nat) (x : Ins) : Prop :=
  (x.op = 1 ∧ 0 ≤ x.a ∧ x.a < k ∧ x.b = 0 ∧ x.to = 0) ∨ ((x.op = 2 ∨ x.op = 5) ∧ x.a = 0 ∧ x.b = 0 ∧ x.to = 0) ∨
  (x.op = 3 ∧ 0 ≤ x.a ∧ x.a ≤ x.b ∧ x.b ≤ 255 ∧ 0 ≤ x.to ∧ x.to < n) ∨ (x.op = 4 ∧ x.a = 0 ∧ x.b = 0 ∧ 0 ≤ x.to ∧ x.to < n)

def LastOK (l : List Ins) : Prop := (l.getD (l.length - 1) i0).op = 4 ∨ (l.getD (l.length - 1) i0).op = 5

theorem tight_of {l : List Ins} {k : Nat} (h : ∀ i, i < l.length → InsOK k l.length (l.getD i i0)) (hl : LastOK l) : Tight l := by
  intro i hi
  have hx := h i hi
  unfold LastOK at hl
  refine ⟨fun ho => ?_, fun ho => ?_⟩
  · by_cases e : i = l.length - 1
    · rw [← e] at hl; omega
    · omega
  · unfold InsOK at hx
    rcases hx with ⟨h1, _⟩ | ⟨h1, _⟩ | ⟨h1, _, _, _, h2⟩ | ⟨h1, _, _, h2⟩ <;> omega

end Pure
end Go.Proofs.Ytmccnmgaoppogaa

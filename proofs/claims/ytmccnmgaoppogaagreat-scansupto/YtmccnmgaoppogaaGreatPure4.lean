/-
  Plain mathematics: taking away what nothing leads to, step by step.
-/
import Derived.Test.YtmccnmgaoppogaaGreatPure3
namespace Go.Proofs.YtmccnmgaoppogaaGreat
namespace Pure

def nats (q : List Nat) : List Int := q.map (fun v : Nat => (v : Int))
theorem nats_len (q : List Nat) : (nats q).length = q.length := by simp [nats]
theorem nats_get (q : List Nat) (t : Nat) : ig (nats q) t = ((q.getD t 0 : Nat) : Int) := by
  unfold ig nats
  simp only [List.getD_eq_getElem?_getD, List.getElem?_map]
  cases q[t]? <;> simp
theorem nats_snoc (q : List Nat) (a : Int) (h : 0 ≤ a) : nats (q ++ [a.toNat]) = nats q ++ [a] := by
  simp [nats]; omega

def qg (q : List Nat) (t : Nat) : Nat := q.getD t 0

def rest (l : List Ins) (a : Nat) : Nat → List Nat
  | 0 => fst (cg l a) a ++ snd (cg l a)
  | 1 => snd (cg l a)
  | _ => []

theorem inv_begin {l : List Ins} {L : List Int} {q : List Nat} {t : Nat} (h : Inv l L q (q.take t) []) (ht : t < q.length) : Inv l L q (q.take (t + 1)) (rest l (qg q t) 0) ∧ qg q t < l.length := by
  have e : q = q.take t ++ qg q t :: q.drop (t + 1) := by
    have h1 : qg q t = q[t] := by unfold qg; simp [List.getD_eq_getElem?_getD, ht]
    rw [h1, List.getElem_cons_drop, List.take_append_drop]
  have e2 : q.take (t + 1) = q.take t ++ [qg q t] := by
    have h1 : qg q t = q[t] := by unfold qg; simp [List.getD_eq_getElem?_getD, ht]
    rw [h1, List.take_succ_eq_append_getElem ht]
  refine ⟨?_, h.lt _ (by unfold qg; simp [List.getD_eq_getElem?_getD, ht])⟩
  have h' : Inv l L (q.take t ++ qg q t :: q.drop (t + 1)) (q.take t) [] := by rw [← e]; exact h
  have := h'.take
  rw [← e, ← e2] at this
  exact this

theorem inv_no0 {l : List Ins} {L : List Int} {q T : List Nat} (ht : Tight l) {k : Nat} (hk : k < l.length) {a : Int} (ha : fa (cg l k) k = a) (h : Inv l L q T (rest l k 0)) (hb : bel a l.length = false) : Inv l L q T (rest l k 1) := by
  subst ha
  have : rest l k 0 = rest l k 1 := by
    show fst (cg l k) k ++ snd (cg l k) = snd (cg l k)
    rw [fst_no ht hk hb, List.nil_append]
  rw [← this]; exact h

theorem inv_no1 {l : List Ins} {L : List Int} {q T : List Nat} (ht : Tight l) {k : Nat} (hk : k < l.length) {a : Int} (ha : fb (cg l k) = a) (h : Inv l L q T (rest l k 1)) (hb : bel a l.length = false) : Inv l L q T (rest l k 2) := by
  subst ha
  have : rest l k 1 = rest l k 2 := by
    show snd (cg l k) = []
    exact snd_no ht hk hb
  rw [← this]; exact h

theorem inv_bd {l : List Ins} {L : List Int} {q T : List Nat} {k j : Nat} (h : Inv l L q T (rest l k j)) {v : Nat} (hv : v < l.length) : 0 ≤ ig L v ∧ ig L v ≤ 2 * l.length + 2 := by
  have h1 := h.cnt v hv
  have h2 := List.count_le_length (a := v) (l := rest l k j ++ tg l (nt l.length T))
  have h3 := tg_len l (nt l.length T)
  have h4 := nt_len l.length T
  have h5 : (rest l k j).length ≤ 2 := by
    have a1 := fst_len (cg l k) k
    have a2 := snd_len (cg l k)
    match j with
    | 0 => show (fst (cg l k) k ++ snd (cg l k)).length ≤ 2; rw [List.length_append]; omega
    | 1 => show (snd (cg l k)).length ≤ 2; omega
    | _ + 2 => show ([] : List Nat).length ≤ 2; simp
  rw [List.length_append] at h2
  unfold ig
  omega

theorem ig_set_same (L : List Int) (v : Nat) (y : Int) (h : v < L.length) : ig (L.set v y) v = y := by rw [ig_set _ _ _ _ h, if_pos rfl]

theorem inv_yes0 {l : List Ins} {L : List Int} {q T : List Nat} (ht : Tight l) {k : Nat} (hk : k < l.length) {a : Int} (ha : fa (cg l k) k = a) (h : Inv l L q T (rest l k 0)) (hb : bel a l.length = true) :
    ((ig L a.toNat - 1 == 0) = true → Inv l (L.set a.toNat (ig L a.toNat - 1)) (q ++ [a.toNat]) T (rest l k 1)) ∧ ((ig L a.toNat - 1 == 0) = false → Inv l (L.set a.toNat (ig L a.toNat - 1)) q T (rest l k 1)) := by
  subst ha
  have e : rest l k 0 = (fa (cg l k) k).toNat :: rest l k 1 := by
    show fst (cg l k) k ++ snd (cg l k) = _
    rw [fst_yes ht hk hb]; rfl
  rw [e] at h
  have hv := (bel_nat hb).1
  have := h.step hv _ rfl
  have g : ((L.set (fa (cg l k) k).toNat (L.getD (fa (cg l k) k).toNat 0 - 1)).getD (fa (cg l k) k).toNat 0) = ig L (fa (cg l k) k).toNat - 1 := ig_set_same L _ _ (by rw [h.len]; exact hv)
  rw [g] at this
  exact ⟨fun hz => this.1 (by simpa using hz), fun hz => this.2.1 (by simpa using hz)⟩

theorem inv_yes1 {l : List Ins} {L : List Int} {q T : List Nat} {k : Nat} {a : Int} (ha : fb (cg l k) = a) (h : Inv l L q T (rest l k 1)) (hb : bel a l.length = true) :
    ((ig L a.toNat - 1 == 0) = true → Inv l (L.set a.toNat (ig L a.toNat - 1)) (q ++ [a.toNat]) T (rest l k 2)) ∧ ((ig L a.toNat - 1 == 0) = false → Inv l (L.set a.toNat (ig L a.toNat - 1)) q T (rest l k 2)) := by
  subst ha
  have e : rest l k 1 = (fb (cg l k)).toNat :: rest l k 2 := by
    show snd (cg l k) = _
    rw [snd_yes hb]; rfl
  rw [e] at h
  have hv := (bel_nat hb).1
  have := h.step hv _ rfl
  have g : ((L.set (fb (cg l k)).toNat (L.getD (fb (cg l k)).toNat 0 - 1)).getD (fb (cg l k)).toNat 0) = ig L (fb (cg l k)).toNat - 1 := ig_set_same L _ _ (by rw [h.len]; exact hv)
  rw [g] at this
  exact ⟨fun hz => this.1 (by simpa using hz), fun hz => this.2.1 (by simpa using hz)⟩

theorem inv_end {l : List Ins} {L : List Int} {q T : List Nat} {k t : Nat} (h : Inv l L q T (rest l k 2)) (hT : T.length = t) : Inv l L q (q.take t) [] ∧ t ≤ q.length := by
  obtain ⟨s, hs⟩ := h.pre
  have : q.take t = T := by rw [hs, ← hT]; simp
  rw [this]
  exact ⟨h, by rw [hs]; simp; omega⟩

theorem inv_out {l : List Ins} {L : List Int} {q : List Nat} {t : Nat} (ht : Tight l) (h : Inv l L q (q.take t) []) (hl : t ≤ q.length) (he : ¬ t < q.length) : (t < l.length ↔ ¬ NoWay l) ∧ t ≤ l.length := by
  have e : t = q.length := by omega
  subst e
  rw [List.take_length] at h
  exact ⟨h.done ht, h.len_le⟩

theorem inv_first {l : List Ins} {L : List Int} (hc : Cnt l L (tg l (List.range l.length))) : Inv l L ((List.range l.length).filter (fun v => ig L v == 0)) [] [] := Inv.start hc.1 hc.2 rfl

def fr (L : List Int) (k : Nat) : List Nat := (List.range k).filter (fun v => ig L v == 0)
theorem fr_len (L : List Int) (k : Nat) : (fr L k).length ≤ k := by
  unfold fr; have := List.length_filter_le (fun v => ig L v == 0) (List.range k); simpa using this
theorem fr_yes (L : List Int) (k : Nat) (h : (ig L k == 0) = true) : fr L (k + 1) = fr L k ++ [k] := by
  unfold fr; rw [List.range_succ, List.filter_append]; simp [h]
theorem fr_no (L : List Int) (k : Nat) (h : (ig L k == 0) = false) : fr L (k + 1) = fr L k := by
  unfold fr; rw [List.range_succ, List.filter_append]; simp [h]

end Pure
end Go.Proofs.YtmccnmgaoppogaaGreat

/-
  Plain mathematics: small patterns as they stand in a text.
-/
import Derived.Test.YtmccnmgaoppogabNB
namespace Go.Proofs.Ytmccnmgaoppogab
namespace Pure

/-- wherever these bytes stand and that byte behind them, they are a pattern (a branch ..) -/
def PL (t : Nt) (x : List Nat) (n : Int) (r : Re) : Prop := ∀ (s : ByteArray) (pre post : List Nat), Holds s (pre ++ (x ++ post)) → pkb s (pre.length + x.length) = n → P s t pre.length (pre.length + x.length) r false
theorem pk_at {s : ByteArray} {pre x post : List Nat} {c : Nat} (h : Holds s (pre ++ (x ++ c :: post))) : pkb s (pre.length + x.length) = (c : Int) := by
  have := Holds.at (s := s) (pre := pre ++ x) (x := c) (post := post) (by rw [List.append_assoc]; exact h)
  rwa [List.length_append] at this
theorem pk_0 {s : ByteArray} {pre post : List Nat} {c : Nat} (h : Holds s (pre ++ (c :: post))) : pkb s pre.length = (c : Int) := h.at
def Sgn (n : Int) : Prop := n = 42 ∨ n = 43 ∨ n = 63

section
variable {x y : List Nat} {n : Int} {r rx ry : Re}
theorem PL.chr {c : Nat} (h1 : BegAtom (c : Int)) (h2 : c ≠ 92 ∧ c ≠ 40 ∧ c ≠ 91 ∧ c ≠ 46) : PL .atom [c] n (.pl (onlyB (c : Int))) := fun s pre post h _ => by
  have p0 : pkb s pre.length = (c : Int) := pk_0 h
  have := P.chr (s := s) (i := pre.length) (by rw [p0]; exact h1) (by rw [p0]; omega) (by rw [p0]; omega) (by rw [p0]; omega) (by rw [p0]; omega)
  rw [p0] at this
  exact this
theorem PL.any : PL .atom [46] n (.pl (notB (onlyB 10))) := fun _ _ _ h _ => .any (pk_0 h)
theorem PL.grp (h : PL .pa x 41 r) : PL .atom (40 :: (x ++ [41])) n r := fun s pre post hs _ => by
  have e1 : pre ++ ((40 :: (x ++ [41])) ++ post) = (pre ++ [40]) ++ (x ++ (41 :: post)) := by simp
  have hs' := hs
  rw [e1] at hs'
  have p41 := pk_at hs'
  have := h s (pre ++ [40]) (41 :: post) hs' p41
  rw [List.length_append] at this p41
  have el : pre.length + (40 :: (x ++ [41])).length = pre.length + [40].length + x.length + 1 := by simp; omega
  rw [el]
  exact .grp (pk_0 hs) this p41
theorem PL.pc (h : PL .atom x n r) (hn : ¬ Sgn n) : PL .pc x n r := fun s pre post hs hp => by
  unfold Sgn at hn
  exact .pc (h s pre post hs hp) (.pcR0 (by rw [hp]; omega) (by rw [hp]; omega) (by rw [hp]; omega))
theorem PL.signed (h : ∀ m, PL .atom x m r) (hn : ¬ Sgn n) {c : Nat} {r' : Re} (hc : (c = 42 ∧ r' = .star r) ∨ (c = 43 ∧ r' = .plus r) ∨ (c = 63 ∧ r' = .opt r)) : PL .pc (x ++ [c]) n r' := fun s pre post hs hp => by
  unfold Sgn at hn
  have e1 : pre ++ ((x ++ [c]) ++ post) = pre ++ (x ++ (c :: post)) := by simp
  have hs' := hs
  rw [e1] at hs'
  have pc := pk_at hs'
  have a := h _ s pre (c :: post) hs' pc
  have el : pre.length + (x ++ [c]).length = pre.length + x.length + 1 := by simp; omega
  rw [el] at hp ⊢
  have z := P.pcR0 (s := s) (i := pre.length + x.length + 1) (a := r') (D := false) (by rw [hp]; omega) (by rw [hp]; omega) (by rw [hp]; omega)
  refine .pc a ?_
  rcases hc with ⟨rfl, rfl⟩ | ⟨rfl, rfl⟩ | ⟨rfl, rfl⟩
  · exact .star pc z
  · exact .plus pc z
  · exact .opt pc z
theorem PL.br1 (h : PL .pc x n r) (hn : ¬ BegAtom n) : PL .br x n r := fun s pre post hs hp => .br (h s pre post hs hp) (.brR0 (by rw [hp]; exact hn))
theorem PL.br2 {c : Nat} (h : PL .pc x (c : Int) rx) (hc : BegAtom (c : Int)) (h' : PL .pc (c :: y) n ry) (hn : ¬ BegAtom n) : PL .br (x ++ (c :: y)) n (.cat rx ry) := fun s pre post hs hp => by
  have e1 : pre ++ ((x ++ (c :: y)) ++ post) = pre ++ (x ++ (c :: (y ++ post))) := by simp
  have e2 : pre ++ ((x ++ (c :: y)) ++ post) = (pre ++ x) ++ ((c :: y) ++ post) := by simp
  have h1 := hs
  rw [e1] at h1
  have h2 := hs
  rw [e2] at h2
  have pc := pk_at h1
  have el : pre.length + (x ++ (c :: y)).length = (pre ++ x).length + (c :: y).length := by simp; omega
  rw [el] at hp ⊢
  have b := h' s (pre ++ x) post h2 hp
  have a := h s pre _ h1 pc
  have el2 : (pre ++ x).length = pre.length + x.length := List.length_append
  rw [el2] at b hp ⊢
  exact .br a (.brR (by rw [pc]; exact hc) b (.brR0 (by rw [hp]; exact hn)))
theorem PL.pa1 (h : PL .br x n r) (hn : n ≠ 124) : PL .pa x n r := fun s pre post hs hp => .pa (h s pre post hs hp) (.paR0 (by rw [hp]; exact hn))
theorem PL.pa2 (h : PL .br x 124 rx) (h' : PL .br y n ry) (hn : n ≠ 124) : PL .pa (x ++ (124 :: y)) n (.alt rx ry) := fun s pre post hs hp => by
  have e1 : pre ++ ((x ++ (124 :: y)) ++ post) = pre ++ (x ++ (124 :: (y ++ post))) := by simp
  have e2 : pre ++ ((x ++ (124 :: y)) ++ post) = (pre ++ x ++ [124]) ++ (y ++ post) := by simp
  have h1 := hs
  rw [e1] at h1
  have h2 := hs
  rw [e2] at h2
  have pc := pk_at h1
  have el : pre.length + (x ++ (124 :: y)).length = (pre ++ x ++ [124]).length + y.length := by simp; omega
  rw [el] at hp ⊢
  have b := h' s (pre ++ x ++ [124]) post h2 hp
  have a := h s pre _ h1 pc
  have el2 : (pre ++ x ++ [124]).length = pre.length + x.length + 1 := by simp; omega
  rw [el2] at b hp ⊢
  exact .pa a (.paR pc b (.paR0 (by rw [hp]; exact hn)))
theorem PL.ab : PL .atom [91, 97, 98, 93] n (.pl (wid (wid noneB 97 97) 98 98)) := fun s pre post h _ => by
  have p0 : pkb s pre.length = 91 := pk_0 h
  have p1 : pkb s (pre.length + 1) = 97 := pk_at (x := [91]) (c := 97) (post := 98 :: 93 :: post) h
  have p2 : pkb s (pre.length + 1 + 1) = 98 := pk_at (x := [91, 97]) (c := 98) (post := 93 :: post) h
  have p3 : pkb s (pre.length + 1 + 1 + 1) = 93 := pk_at (x := [91, 97, 98]) (c := 93) (post := post) h
  have s1 : Sg s (pre.length + 1) (pre.length + 1 + 1) 97 := by
    have := Sg.plain (s := s) (i := pre.length + 1) (by rw [p1]; omega) (by rw [p1]; omega)
    rwa [p1] at this
  have s2 : Sg s (pre.length + 1 + 1) (pre.length + 1 + 1 + 1) 98 := by
    have := Sg.plain (s := s) (i := pre.length + 1 + 1) (by rw [p2]; omega) (by rw [p2]; omega)
    rwa [p2] at this
  exact .cls p0 (by rw [p1]; omega) (.more (.one s1 (by rw [p2]; omega)) (by rw [p2]; omega) (.done (.one s2 (by rw [p3]; omega)) p3))
theorem PL.na : PL .atom [91, 94, 97, 93] n (.pl (notB (wid noneB 97 97))) := fun s pre post h _ => by
  have p0 : pkb s pre.length = 91 := pk_0 h
  have p1 : pkb s (pre.length + 1) = 94 := pk_at (x := [91]) (c := 94) (post := 97 :: 93 :: post) h
  have p2 : pkb s (pre.length + 2) = 97 := pk_at (x := [91, 94]) (c := 97) (post := 93 :: post) h
  have p3 : pkb s (pre.length + 2 + 1) = 93 := pk_at (x := [91, 94, 97]) (c := 93) (post := post) h
  have s2 : Sg s (pre.length + 2) (pre.length + 2 + 1) 97 := by
    have := Sg.plain (s := s) (i := pre.length + 2) (by rw [p2]; omega) (by rw [p2]; omega)
    rwa [p2] at this
  exact .ncls p0 p1 (.done (.one s2 (by rw [p3]; omega)) p3)
theorem PL.bc : PL .atom [91, 98, 45, 99, 93] n (.pl (wid noneB 98 99)) := fun s pre post h _ => by
  have p0 : pkb s pre.length = 91 := pk_0 h
  have p1 : pkb s (pre.length + 1) = 98 := pk_at (x := [91]) (c := 98) (post := 45 :: 99 :: 93 :: post) h
  have p2 : pkb s (pre.length + 1 + 1) = 45 := pk_at (x := [91, 98]) (c := 45) (post := 99 :: 93 :: post) h
  have p3 : pkb s (pre.length + 1 + 1 + 1) = 99 := pk_at (x := [91, 98, 45]) (c := 99) (post := 93 :: post) h
  have p4 : pkb s (pre.length + 1 + 1 + 1 + 1) = 93 := pk_at (x := [91, 98, 45, 99]) (c := 93) (post := post) h
  have s1 : Sg s (pre.length + 1) (pre.length + 1 + 1) 98 := by
    have := Sg.plain (s := s) (i := pre.length + 1) (by rw [p1]; omega) (by rw [p1]; omega)
    rwa [p1] at this
  have s2 : Sg s (pre.length + 1 + 1 + 1) (pre.length + 1 + 1 + 1 + 1) 99 := by
    have := Sg.plain (s := s) (i := pre.length + 1 + 1 + 1) (by rw [p3]; omega) (by rw [p3]; omega)
    rwa [p3] at this
  exact .cls p0 (by rw [p1]; omega) (.done (.range s1 p2 s2) p4)
end

/-- a piece of at most two places -/
structure Pc (x : List Nat) (r : Re) : Prop where
  pc : ∀ n, ¬ Sgn n → PL .pc x n r
  head : ∃ (c : Nat) (y : List Nat), x = c :: y ∧ BegAtom (c : Int) ∧ ¬ Sgn (c : Int)
  leaves : r.leaves ≤ 2
  len : x.length ≤ 12

theorem begP {c : Int} (h : c = 97 ∨ c = 98 ∨ c = 40 ∨ c = 91 ∨ c = 46) : BegAtom c ∧ ¬ Sgn c := by
  unfold BegAtom Sgn
  omega
theorem a_at {n : Int} : PL .atom [97] n (.pl (onlyB 97)) := PL.chr (c := 97) (begP (.inl rfl)).1 (by omega)
theorem b_at {n : Int} : PL .atom [98] n (.pl (onlyB 98)) := PL.chr (c := 98) (begP (.inr (.inl rfl))).1 (by omega)
theorem sg_41 : ¬ Sgn 41 ∧ ¬ BegAtom 41 ∧ (41 : Int) ≠ 124 := by unfold Sgn BegAtom; omega
theorem sg_124 : ¬ Sgn 124 ∧ ¬ BegAtom 124 := by unfold Sgn BegAtom; omega

/-- the small patterns: their bytes, and what they are -/
def littles : List (List Nat × Re) := [
  ([97], .pl (onlyB 97)), ([98], .pl (onlyB 98)), ([91, 97, 98, 93], .pl (wid (wid noneB 97 97) 98 98)),
  ([40, 97, 98, 41], .cat (.pl (onlyB 97)) (.pl (onlyB 98))), ([40, 97, 124, 98, 41], .alt (.pl (onlyB 97)) (.pl (onlyB 98))), ([40, 97, 42, 41], .star (.pl (onlyB 97))),
  ([40, 97, 98, 41, 42], .star (.cat (.pl (onlyB 97)) (.pl (onlyB 98)))), ([40, 97, 124, 98, 41, 63], .opt (.alt (.pl (onlyB 97)) (.pl (onlyB 98)))), ([40, 98, 97, 43, 41], .cat (.pl (onlyB 98)) (.plus (.pl (onlyB 97)))),
  ([91, 94, 97, 93], .pl (notB (wid noneB 97 97))), ([46], .pl (notB (onlyB 10))), ([40, 97, 63, 98, 63, 41], .cat (.opt (.pl (onlyB 97))) (.opt (.pl (onlyB 98)))),
  ([97, 43], .plus (.pl (onlyB 97))), ([40, 91, 98, 45, 99, 93, 97, 41, 42], .star (.cat (.pl (wid noneB 98 99)) (.pl (onlyB 97)))), ([40, 46, 98, 41], .cat (.pl (notB (onlyB 10))) (.pl (onlyB 98)))]

theorem littles_pc : ∀ q ∈ littles, Pc q.1 q.2 := by
  have atom : ∀ {x : List Nat} {r : Re} {c : Nat} {y : List Nat}, (∀ n, PL .atom x n r) → x = c :: y → ((c : Int) = 97 ∨ (c : Int) = 98 ∨ (c : Int) = 40 ∨ (c : Int) = 91 ∨ (c : Int) = 46) → r.leaves ≤ 2 → x.length ≤ 12 → Pc x r := fun h e hc hl hn =>
    ⟨fun n hn => (h n).pc hn, ⟨_, _, e, (begP hc).1, (begP hc).2⟩, hl, hn⟩
  have gr : ∀ {x : List Nat} {r : Re}, PL .pa x 41 r → ∀ n, PL .atom (40 :: (x ++ [41])) n r := fun h n => h.grp
  have ab : PL .pa [97, 98] 41 (.cat (.pl (onlyB 97)) (.pl (onlyB 98))) := (PL.br2 (x := [97]) (c := 98) (y := []) (a_at.pc (begP (.inr (.inl rfl))).2) (begP (.inr (.inl rfl))).1 (b_at.pc sg_41.1) sg_41.2.1).pa1 sg_41.2.2
  have aob : PL .pa [97, 124, 98] 41 (.alt (.pl (onlyB 97)) (.pl (onlyB 98))) := PL.pa2 (x := [97]) (y := [98]) ((a_at.pc sg_124.1).br1 sg_124.2) ((b_at.pc sg_41.1).br1 sg_41.2.1) sg_41.2.2
  have ast : PL .pa [97, 42] 41 (.star (.pl (onlyB 97))) := ((PL.signed (x := [97]) (c := 42) (fun m => a_at) sg_41.1 (.inl ⟨rfl, rfl⟩)).br1 sg_41.2.1).pa1 sg_41.2.2
  have bap : PL .pa [98, 97, 43] 41 (.cat (.pl (onlyB 98)) (.plus (.pl (onlyB 97)))) := (PL.br2 (x := [98]) (c := 97) (y := [43]) (b_at.pc (begP (.inl rfl)).2) (begP (.inl rfl)).1 (PL.signed (x := [97]) (c := 43) (fun m => a_at) sg_41.1 (.inr (.inl ⟨rfl, rfl⟩))) sg_41.2.1).pa1 sg_41.2.2
  have aqbq : PL .pa [97, 63, 98, 63] 41 (.cat (.opt (.pl (onlyB 97))) (.opt (.pl (onlyB 98)))) := (PL.br2 (x := [97, 63]) (c := 98) (y := [63]) (PL.signed (x := [97]) (c := 63) (fun m => a_at) (begP (.inr (.inl rfl))).2 (.inr (.inr ⟨rfl, rfl⟩))) (begP (.inr (.inl rfl))).1 (PL.signed (x := [98]) (c := 63) (fun m => b_at) sg_41.1 (.inr (.inr ⟨rfl, rfl⟩))) sg_41.2.1).pa1 sg_41.2.2
  have bca : PL .pa [91, 98, 45, 99, 93, 97] 41 (.cat (.pl (wid noneB 98 99)) (.pl (onlyB 97))) := (PL.br2 (x := [91, 98, 45, 99, 93]) (c := 97) (y := []) (PL.bc.pc (begP (.inl rfl)).2) (begP (.inl rfl)).1 (a_at.pc sg_41.1) sg_41.2.1).pa1 sg_41.2.2
  have dob : PL .pa [46, 98] 41 (.cat (.pl (notB (onlyB 10))) (.pl (onlyB 98))) := (PL.br2 (x := [46]) (c := 98) (y := []) (PL.any.pc (begP (.inr (.inl rfl))).2) (begP (.inr (.inl rfl))).1 (b_at.pc sg_41.1) sg_41.2.1).pa1 sg_41.2.2
  have h40 : BegAtom ((40 : Nat) : Int) ∧ ¬ Sgn ((40 : Nat) : Int) := begP (.inr (.inr (.inl rfl)))
  intro q hq
  simp only [littles, List.mem_cons, List.not_mem_nil, or_false] at hq
  rcases hq with rfl | rfl | rfl | rfl | rfl | rfl | rfl | rfl | rfl | rfl | rfl | rfl | rfl | rfl | rfl
  · exact atom (fun n => a_at) rfl (.inl rfl) (by decide) (by decide)
  · exact atom (fun n => b_at) rfl (.inr (.inl rfl)) (by decide) (by decide)
  · exact atom (fun n => PL.ab) rfl (.inr (.inr (.inr (.inl rfl)))) (by decide) (by decide)
  · exact atom (gr ab) rfl (.inr (.inr (.inl rfl))) (by decide) (by decide)
  · exact atom (gr aob) rfl (.inr (.inr (.inl rfl))) (by decide) (by decide)
  · exact atom (gr ast) rfl (.inr (.inr (.inl rfl))) (by decide) (by decide)
  · exact ⟨fun n hn => PL.signed (c := 42) (gr ab) hn (.inl ⟨rfl, rfl⟩), ⟨40, _, rfl, h40.1, h40.2⟩, by decide, by decide⟩
  · exact ⟨fun n hn => PL.signed (c := 63) (gr aob) hn (.inr (.inr ⟨rfl, rfl⟩)), ⟨40, _, rfl, h40.1, h40.2⟩, by decide, by decide⟩
  · exact atom (gr bap) rfl (.inr (.inr (.inl rfl))) (by decide) (by decide)
  · exact atom (fun n => PL.na) rfl (.inr (.inr (.inr (.inl rfl)))) (by decide) (by decide)
  · exact atom (fun n => PL.any) rfl (.inr (.inr (.inr (.inr rfl)))) (by decide) (by decide)
  · exact atom (gr aqbq) rfl (.inr (.inr (.inl rfl))) (by decide) (by decide)
  · exact ⟨fun n hn => PL.signed (x := [97]) (c := 43) (fun m => a_at) hn (.inr (.inl ⟨rfl, rfl⟩)), ⟨97, _, rfl, (begP (.inl rfl)).1, (begP (.inl rfl)).2⟩, by decide, by decide⟩
  · exact ⟨fun n hn => PL.signed (c := 42) (gr bca) hn (.inl ⟨rfl, rfl⟩), ⟨40, _, rfl, h40.1, h40.2⟩, by decide, by decide⟩
  · exact atom (gr dob) rfl (.inr (.inr (.inl rfl))) (by decide) (by decide)

/- ---- what is made out of pieces ---- -/

section
variable {x y : List Nat} {rx ry : Re}
theorem Pc.one (h : Pc x rx) : PL .pa x 41 rx := ((h.pc 41 sg_41.1).br1 sg_41.2.1).pa1 sg_41.2.2
theorem Pc.or (h : Pc x rx) (h' : Pc y ry) : PL .pa (x ++ (124 :: y)) 41 (.alt rx ry) := PL.pa2 ((h.pc 124 sg_124.1).br1 sg_124.2) ((h'.pc 41 sg_41.1).br1 sg_41.2.1) sg_41.2.2
theorem Pc.and (h : Pc x rx) (h' : Pc y ry) : PL .pa (x ++ y) 41 (.cat rx ry) := by
  obtain ⟨c, y', rfl, h1, h2⟩ := h'.head
  exact (PL.br2 (h.pc _ h2) h1 (h'.pc 41 sg_41.1) sg_41.2.1).pa1 sg_41.2.2
theorem Pc.signed (h : Pc x rx) {c : Nat} {r' : Re} (hc : (c = 42 ∧ r' = .star rx) ∨ (c = 43 ∧ r' = .plus rx) ∨ (c = 63 ∧ r' = .opt rx)) : PL .pa ((40 :: (x ++ [41])) ++ [c]) 41 r' := ((PL.signed (fun _ => h.one.grp) sg_41.1 hc).br1 sg_41.2.1).pa1 sg_41.2.2
end

/-- the line of a pattern behind an x -/
def lineX (x : List Nat) : List Nat := [97, 32] ++ ((120 :: (40 :: (x ++ [41]))) ++ [32, 101])
def lnX (r : Re) : Ln := ⟨0, 1, 0, 0, .cat (.pl (onlyB 120)) r, false⟩
theorem PL.behindX {x : List Nat} {r : Re} (h : PL .pa x 41 r) : PL .pa (120 :: (40 :: (x ++ [41]))) 32 (.cat (.pl (onlyB 120)) r) := by
  have s32 : ¬ Sgn 32 ∧ ¬ BegAtom 32 := by unfold Sgn BegAtom; omega
  have b120 : BegAtom ((120 : Nat) : Int) := by unfold BegAtom; omega
  have b40 : BegAtom ((40 : Nat) : Int) ∧ ¬ Sgn ((40 : Nat) : Int) := begP (.inr (.inr (.inl rfl)))
  exact (PL.br2 (x := [120]) (c := 40) (y := x ++ [41]) ((PL.chr (c := 120) b120 (by omega)).pc b40.2) b40.1 (h.grp.pc s32.1) s32.2).pa1 (by omega)
theorem PL.line {x : List Nat} {r : Re} (hx : PL .pa x 41 r) {s : ByteArray} {pre post : List Nat} (hp : post = [] ∨ ∃ q, post = 10 :: q) (h : Holds s (pre ++ (lineX x ++ post))) : LnP s pre.length (pre.length + (lineX x).length) (lnX r) := by
  generalize hz : (120 :: (40 :: (x ++ [41])) : List Nat) = z
  have hz' : lineX x = [97, 32] ++ (z ++ [32, 101]) := by unfold lineX; rw [hz]
  have hb := hx.behindX
  rw [hz] at hb
  rw [hz'] at h ⊢
  have e1 : pre ++ (([97, 32] ++ (z ++ [32, 101])) ++ post) = pre ++ (97 :: (32 :: (z ++ (32 :: 101 :: post)))) := by simp
  have e2 : pre ++ (([97, 32] ++ (z ++ [32, 101])) ++ post) = pre ++ ([97] ++ 32 :: (z ++ (32 :: 101 :: post))) := by simp
  have e3 : pre ++ (([97, 32] ++ (z ++ [32, 101])) ++ post) = (pre ++ [97, 32]) ++ (z ++ (32 :: 101 :: post)) := by simp
  have e4 : pre ++ (([97, 32] ++ (z ++ [32, 101])) ++ post) = (pre ++ [97, 32]) ++ ((z ++ [32]) ++ 101 :: post) := by simp
  have p1 : pkb s pre.length = 97 := pk_0 (c := 97) (post := 32 :: (z ++ (32 :: 101 :: post))) (by rw [← e1]; exact h)
  have p2 : pkb s (pre.length + 1) = 32 := pk_at (x := [97]) (c := 32) (post := z ++ (32 :: 101 :: post)) (by rw [← e2]; exact h)
  have h3 := h
  rw [e3] at h3
  have p4 := pk_at h3
  have p3 := hb s (pre ++ [97, 32]) _ h3 p4
  have p5 := pk_at (s := s) (pre := pre ++ [97, 32]) (x := z ++ [32]) (c := 101) (post := post) (by rw [← e4]; exact h)
  have l2 : (pre ++ [97, 32]).length = pre.length + 2 := by simp
  have l3 : (z ++ [32]).length = z.length + 1 := by simp
  rw [l2] at p3 p4 p5
  rw [l3, ← Nat.add_assoc] at p5
  have p6 : pkb s (pre.length + 2 + z.length + 1 + 1) = 10 ∨ pkb s (pre.length + 2 + z.length + 1 + 1) = -1 := by
    rcases hp with rfl | ⟨q, rfl⟩
    · right
      have := h.end
      have el : (pre ++ (([97, 32] ++ (z ++ [32, 101])) ++ [])).length = pre.length + 2 + z.length + 1 + 1 := by
        simp only [List.length_append, List.length_cons, List.length_nil]
        omega
      rw [el] at this
      exact this
    · left
      have e6 : pre ++ (([97, 32] ++ (z ++ [32, 101])) ++ 10 :: q) = (pre ++ [97, 32]) ++ ((z ++ [32, 101]) ++ 10 :: q) := by simp
      have := pk_at (s := s) (pre := pre ++ [97, 32]) (x := z ++ [32, 101]) (c := 10) (post := q) (by rw [← e6]; exact h)
      have l4 : (z ++ [32, 101] : List Nat).length = z.length + 1 + 1 := by simp
      rw [l2, l4, ← Nat.add_assoc, ← Nat.add_assoc] at this
      exact this
  have el : pre.length + ([97, 32] ++ (z ++ [32, 101])).length = pre.length + 2 + z.length + 1 + 1 := by
    simp only [List.length_append, List.length_cons, List.length_nil]
    omega
  rw [el]
  have ln := LnP.mk (s := s) (i := pre.length) (by rw [p1]; unfold Letter; omega) p2 p3 p4 (.plain (e := 1) (by rw [p5]; exact .inl ⟨rfl, rfl⟩) (by omega) (by omega) (by omega))
  have ex : (⟨pkb s pre.length - 97, 1, 0, 0, .cat (.pl (onlyB 120)) r, false⟩ : Ln) = lnX r := by
    rw [p1]
    rfl
  rw [ex] at ln
  exact ln
theorem one_line {x : List Nat} {r : Re} (hx : PL .pa x 41 r) {s : ByteArray} (h : Holds s (lineX x)) : Lns s 0 [] [lnX r] := by
  have hl := hx.line (s := s) (pre := []) (post := []) (.inl rfl) (by simpa using h)
  have es : s.size = 0 + (lineX x).length := by rw [h.size]; simp
  have hl' : LnP s 0 s.size (lnX r) := by rw [es]; exact hl
  exact .done hl'
theorem two_lines {x y : List Nat} {rx ry : Re} (hx : PL .pa x 41 rx) (hy : PL .pa y 41 ry) {s : ByteArray} (h : Holds s (lineX x ++ (10 :: lineX y))) : Lns s 0 [] [lnX rx, lnX ry] := by
  have h1 := hx.line (s := s) (pre := []) (post := 10 :: lineX y) (.inr ⟨_, rfl⟩) (by simpa using h)
  have p1 : pkb s (0 + (lineX x).length) = 10 := pk_at (s := s) (pre := []) (x := lineX x) (c := 10) (post := lineX y) (by simpa using h)
  have h2 := hy.line (s := s) (pre := lineX x ++ [10]) (post := []) (.inl rfl) (by simpa using h)
  have es : s.size = (lineX x ++ [10]).length + (lineX y).length := by rw [h.size]; simp; omega
  rw [← es] at h2
  have e1 : (lineX x ++ [10]).length = 0 + (lineX x).length + 1 := by simp
  rw [e1] at h2
  exact .more h1 p1 (by decide) (.done h2)

end Pure
end Go.Proofs.Ytmccnmgaoppogab

/-
  Both scanners, one call: Feed and Finish give the same.
  All that a script has made: what is kept while a list is put into the drawer.
  All that a script has made: one scanner's call leaves the others alone.
-/
import Derived.Test.YtmccnmgaoppogaaGreatD12
namespace Go.Proofs.YtmccnmgaoppogaaGreat
open Go.RowKit

/-- a scanner that goes on: no error, and no end -/
def Live (E : Pure.Env) (C : Pure.Cfg) : Prop := C.err = 0 ∧ E.ended = false

/-- what the program's call gives; E1: the input behind it -/
def RetC1 (L g : Nat) (E E1 : Pure.Env) (C : Pure.Cfg) (w : World) (e : Ending) (w' : World) : Prop :=
  ∃ D T vt E2 code, e = .returned (.tuple #[vt, .int .i64 code]) ∧ w'.ownsRow w.heap.size 74 5 vt T.length (tokCells T) ∧ ScP (Own L g) w' g E2 D ∧ w.grownBy w' (some g) ∧ E2.s.size ≤ E1.s.size ∧
    (Live E C → E2 = E1 ∧ Pure.Runs E1 C D ∧ D.toks = C.toks ++ T ∧ code = D.err) ∧ (¬Live E C → D = C ∧ T = [] ∧ code = shut true C.err ∧ (C.err = 0 → E2 = E))
/-- what the document's gives -/
def RetD1 (L g : Nat) (E E1 : Pure.Env) (C : Pure.Cfg) (w : World) (e : Ending) (w' : World) : Prop :=
  ∃ D T vt E2 code, e = .returned (.tuple #[vt, .int .i64 code]) ∧ w'.ownsRow w.heap.size 74 5 vt T.length (tokCells T) ∧ Ds (Own L g) w' g E2 D ∧ w.grownBy w' (some g) ∧ E2.s.size ≤ E1.s.size ∧
    (Live E C → E2 = E1 ∧ Pure.Runs E1 (cfg0 E1.p) D ∧ T = D.toks.drop C.toks.length ∧ code = D.err) ∧ (¬Live E C → D = C ∧ T = [] ∧ code = shut true C.err ∧ (C.err = 0 → E2 = E))

theorem fed_c1 {L g : Nat} {E E1 : Pure.Env} {C : Pure.Cfg} {w w' : World} {e : Ending} (hE : E.ended = false) (h : RetFedP (Own L g) g E1 C w e w') : RetC1 L g E E1 C w e w' := by
  obtain ⟨D, T, vt, hr, ht, rfl, ho, hS, hg⟩ := h
  refine ⟨D, T, vt, E1, D.err, rfl, ho, hS, hg, Nat.le_refl _, fun _ => ⟨rfl, hr, ht, rfl⟩, fun hl => ?_⟩
  have he : C.err ≠ 0 := fun h => hl ⟨h, hE⟩
  have hd : C = D := hr.1.done (Pure.mic_err he)
  subst hd
  refine ⟨rfl, ?_, ?_, fun h => absurd h he⟩
  · have := congrArg List.length ht
    rw [List.length_append] at this
    exact List.eq_nil_of_length_eq_zero (by omega)
  · unfold shut
    rw [if_pos he]
theorem shut_c1 {L g : Nat} {E E1 : Pure.Env} {C : Pure.Cfg} {w w' : World} {e : Ending} (hE : E.ended = true) (hz : E.s.size ≤ E1.s.size) (h : ScP (Own L g) w g E C) (hr : RetShut (shut true C.err) w e w') : RetC1 L g E E1 C w e w' := by
  obtain ⟨rfl, rfl⟩ := hr
  refine ⟨C, [], _, E, _, rfl, own_nil _ _ _ _, h, World.grownBy.refl _ _, hz, fun hl => ?_, fun _ => ⟨rfl, rfl, rfl, fun _ => rfl⟩⟩
  have := hl.2
  rw [hE] at this
  cases this

theorem codeFeed (L g : Nat) (E : Pure.Env) (C : Pure.Cfg) (chunk : ByteArray) (w : World) (h : ScP (Own L g) w g E C) (hs : E.s.size + chunk.size ≤ 1099511627776) :
    Calls Tryz.prog 37 #[.pointer (some ⟨g, 0, none⟩), .string chunk] w (RetC1 L g E (E.on chunk false) C w) := by
  cases hE : E.ended
  · exact (feed_anyP (Own L g) g E C chunk w h hE hs).mono fun _ _ k => fed_c1 hE k
  · exact (feed_shut g E C chunk w h.sc hE).mono fun _ _ k => shut_c1 hE (by rw [Pure.on_size]; omega) h k
theorem codeFinish (L g : Nat) (E : Pure.Env) (C : Pure.Cfg) (w : World) (h : ScP (Own L g) w g E C) (hs : E.s.size ≤ 1099511627776) :
    Calls Tryz.prog 39 #[.pointer (some ⟨g, 0, none⟩)] w (RetC1 L g E (E.on noBytes true) C w) := by
  cases hE : E.ended
  · exact (finish_anyP (Own L g) g E C w h hE hs).mono fun _ _ k => fed_c1 hE k
  · exact (finish_shut g E C w h.sc hE).mono fun _ _ k => shut_c1 hE (by rw [Pure.on_size]; omega) h k

theorem fed_d1 {L g : Nat} {E E1 : Pure.Env} {C : Pure.Cfg} {w w' : World} {e : Ending} (hl : Live E C) (h : RetFedR (Own L g) g E1 C w e w') : RetD1 L g E E1 C w e w' := by
  obtain ⟨D, vo, hr, rfl, ho, hS, hg⟩ := h
  exact ⟨D, D.toks.drop C.toks.length, vo, E1, D.err, rfl, by rw [List.length_drop]; exact ho, hS, hg, Nat.le_refl _, fun _ => ⟨rfl, hr, rfl, rfl⟩, fun k => absurd hl k⟩
theorem shut_d1 {L g : Nat} {E E1 : Pure.Env} {C : Pure.Cfg} {w w' : World} {e : Ending} (hl : ¬Live E C) (hz : E.s.size ≤ E1.s.size) (h : Ds (Own L g) w g E C) (hr : RetShutD (shut true C.err) w e w') : RetD1 L g E E1 C w e w' := by
  obtain ⟨rfl, hb⟩ := hr
  exact ⟨C, [], _, E, _, rfl, own_nil _ _ _ _, h.below hb, ⟨hb.os, hb.tape, hb.output, hb.size, fun k hk _ => hb.block k hk⟩, hz, fun k => absurd k hl, fun _ => ⟨rfl, rfl, rfl, fun _ => rfl⟩⟩
theorem not_live {E : Pure.Env} {C : Pure.Cfg} (h : ¬Live E C) : C.err ≠ 0 ∨ E.ended = true := by
  by_cases he : C.err = 0
  · right
    cases hE : E.ended
    · exact absurd ⟨he, hE⟩ h
    · rfl
  · exact .inl he

theorem docFeed (L g : Nat) (E : Pure.Env) (C : Pure.Cfg) (chunk : ByteArray) (w : World) (h : Ds (Own L g) w g E C) (hs : E.s.size + chunk.size ≤ 1099511627776) :
    Calls Tryz.prog 38 #[.pointer (some ⟨g, 0, none⟩), .string chunk] w (RetD1 L g E (E.on chunk false) C w) := by
  by_cases hl : Live E C
  · exact (refFeed_any (Own L g) g E C chunk w h hl.1 hl.2 hs).mono fun _ _ k => fed_d1 hl k
  · exact (refFeed_shut (Own L g) g E C chunk w h (not_live hl)).mono fun _ _ k => shut_d1 hl (by rw [Pure.on_size]; omega) h k
theorem docFinish (L g : Nat) (E : Pure.Env) (C : Pure.Cfg) (w : World) (h : Ds (Own L g) w g E C) (hs : E.s.size ≤ 1099511627776) :
    Calls Tryz.prog 40 #[.pointer (some ⟨g, 0, none⟩)] w (RetD1 L g E (E.on noBytes true) C w) := by
  by_cases hl : Live E C
  · exact (refFinish_any (Own L g) g E C w h hl.1 hl.2 hs).mono fun _ _ k => fed_d1 hl k
  · exact (refFinish_shut (Own L g) g E C w h (not_live hl)).mono fun _ _ k => shut_d1 hl (by rw [Pure.on_size]; omega) h k

/-- the two come to the same -/
theorem both_same {f : Nat → Int} {E E' : Pure.Env} {C D D' : Pure.Cfg} {T T' : List Pure.Tok} {t : ByteArray} {b : Bool} {E2 E2' : Pure.Env} {code code' : Int} (gd : Pure.Good E' f) (hr : Pure.Runs E' (cfg0 E'.p) C) (hE : C.err = 0 → E = E')
    (h1 : Live E C → E2 = E.on t b ∧ Pure.Runs (E.on t b) C D ∧ D.toks = C.toks ++ T ∧ code = D.err) (h2 : ¬Live E C → D = C ∧ T = [] ∧ code = shut true C.err ∧ (C.err = 0 → E2 = E))
    (k1 : Live E' C → E2' = E'.on t b ∧ Pure.Runs (E'.on t b) (cfg0 (E'.on t b).p) D' ∧ T' = D'.toks.drop C.toks.length ∧ code' = D'.err) (k2 : ¬Live E' C → D' = C ∧ T' = [] ∧ code' = shut true C.err ∧ (C.err = 0 → E2' = E')) :
    D' = D ∧ T' = T ∧ code' = code ∧ (D.err = 0 → E2 = E2') := by
  by_cases hl : Live E C
  · have e := hE hl.1
    subst e
    obtain ⟨a1, a2, a3, a4⟩ := h1 hl
    obtain ⟨b1, b2, b3, b4⟩ := k1 hl
    have r := hr.1.on gd (sta1 gd) hl.2 t b
    have d : D' = D := b2.same ⟨r.trans a2.1, a2.2⟩
    subst d
    exact ⟨rfl, by rw [b3, a3, List.drop_left], by rw [b4, a4], fun _ => by rw [a1, b1]⟩
  · have hl' : ¬Live E' C := fun k => hl (by rw [hE k.1]; exact k)
    obtain ⟨a1, a2, a3, a4⟩ := h2 hl
    obtain ⟨b1, b2, b3, b4⟩ := k2 hl'
    subst a1
    exact ⟨b1, by rw [a2, b2], by rw [a3, b3], fun h => by rw [a4 h, b4 h, hE h]⟩

end Go.Proofs.YtmccnmgaoppogaaGreat

namespace Go.Proofs.YtmccnmgaoppogaaGreat
open Go.RowKit

/-- a gauge: the program's scanner (g), the document's (gs), where their lists begin, what they have been fed, where they stand -/
structure Gz where
  g : Nat
  gs : Nat
  L : Nat
  L' : Nat
  E : Pure.Env
  E' : Pure.Env
  C : Pure.Cfg
/-- a list that came out, and the number that is written over it -/
structure Tl where
  ao : Option Addr
  cap : Nat
  m : Int

structure GOK (N : Nat) (W : World) (x : Gz) : Prop where
  c : ScP (Own x.L x.g) W x.g x.E x.C
  d : Ds (Own x.L' x.gs) W x.gs x.E' x.C
  same : x.C.err = 0 → x.E = x.E'
  n1 : x.E.s.size ≤ N
  n2 : x.E'.s.size ≤ N

def picC (l : List ByteArray) : List Value := l.flatMap (fun s => [.string s, .pointer none])
def gauC (l : List Gz) : List Value := l.flatMap (fun x => [.pointer (some ⟨x.g, 0, none⟩), .pointer (some ⟨x.gs, 0, none⟩)])

def Far (zs : List Gz) (b : Nat) : Prop := ∀ x ∈ zs, ¬(x.L ≤ b ∧ b < x.g) ∧ ¬(x.L' ≤ b ∧ b < x.gs)

/-- all but the drawer; the lists that came out lie below B; os: the gauges of which it speaks -/
structure WQ (N B gw gd : Nat) (ims : List ByteArray) (zs os : List Gz) (ts : List Tl) (vim vsc : Value) (W : World) : Prop where
  w : Blk W gw 37 [vim, vsc, .pointer (some ⟨gd, 0, none⟩)]
  im : W.ownsRow gd 57 2 vim ims.length (picC ims)
  sc : W.ownsRow gd 70 2 vsc zs.length (gauC zs)
  parts : ∀ x ∈ ts, Part W x.ao x.cap x.cap (.int .i64 x.m) ∧ ∀ g, x.ao = some ⟨g, 0, none⟩ → g < B
  gz : ∀ x ∈ os, GOK N W x
  sz : B ≤ W.heap.size

/-- what may be written over -/
def Okay (B : Nat) (os : List Gz) (W : World) (row : Option Nat) : Prop :=
  ∀ b, row = some b → ∀ cs t fr, W.heap[b]? = some (.cells cs t fr) → t ≠ 37 ∧ t ≠ 57 ∧ t ≠ 70 ∧ (∀ x ∈ os, x.g ≠ b ∧ x.gs ≠ b) ∧ t ≠ 59 ∧ t ≠ 61 ∧ t ≠ 5 ∧ (t = 74 → B ≤ b) ∧ (t = 3 → Far os b)

section
variable {N B gw gd : Nat} {ims : List ByteArray} {zs os : List Gz} {ts : List Tl} {vim vsc : Value} {W W' : World} {row : Option Nat}

theorem WQ.step (h : WQ N B gw gd ims zs os ts vim vsc W) (ho : Okay B os W row) (hg : W.grownBy W' row) : WQ N B gw gd ims zs os ts vim vsc W' := by
  refine ⟨blk_grown h.w hg (fun e => (ho gw e.symm _ _ _ h.w).1 rfl), own_safe h.im hg ?_, own_safe h.sc hg ?_, fun x hx => ⟨?_, (h.parts x hx).2⟩, fun x hx => ?_, Nat.le_trans h.sz hg.size⟩
  · intro g cur _ hc e
    exact (ho g e.symm _ _ _ hc).2.1 rfl
  · intro g cur _ hc e
    exact (ho g e.symm _ _ _ hc).2.2.1 rfl
  · refine (h.parts x hx).1.keep (fun g xs hg' hb => blk_grown hb hg ?_)
    intro e
    have q := (ho g e.symm _ _ _ hb).2.2.2.2.2.2.2.1 rfl
    have := (h.parts x hx).2 g hg'
    omega
  · have k := h.gz x hx
    obtain ⟨xs, hb⟩ := k.c.blk
    obtain ⟨ys, hb'⟩ := k.d.blk
    refine ⟨k.c.keep ⟨fun e => ((ho x.g e.symm _ _ _ hb).2.2.2.1 x hx).1 rfl, ?_⟩ hg, k.d.keep ⟨fun e => ((ho x.gs e.symm _ _ _ hb').2.2.2.1 x hx).2 rfl, ?_⟩ hg, k.same, k.n1, k.n2⟩
    · intro b e cs t fr hc
      have q := ho b e cs t fr hc
      exact ⟨q.2.2.2.2.1, q.2.2.2.2.2.1, q.2.2.2.2.2.2.1, fun e => (q.2.2.2.2.2.2.2.2 e x hx).1⟩
    · intro b e cs t fr hc
      have q := ho b e cs t fr hc
      exact ⟨q.2.2.2.2.1, q.2.2.2.2.2.1, q.2.2.2.2.2.2.1, fun e => (q.2.2.2.2.2.2.2.2 e x hx).2⟩

theorem WQ.apart (h : WQ N B gw gd ims zs os ts vim vsc W) {g : Nat} {cs : Array Value} {t : TypeId} {fr : Nat × Nat} (hb : W.heap[g]? = some (.cells cs t fr)) (h1 : t ≠ 177) (h2 : t ≠ 133) : ∀ x ∈ os, x.g ≠ g ∧ x.gs ≠ g := by
  intro x hx
  have k := h.gz x hx
  obtain ⟨xs, b1⟩ := k.c.blk
  obtain ⟨ys, b2⟩ := k.d.blk
  unfold Blk at b1 b2
  refine ⟨fun e => ?_, fun e => ?_⟩
  · rw [e, hb] at b1
    cases b1
    exact h1 rfl
  · rw [e, hb] at b2
    cases b2
    exact h2 rfl

/-- by its type alone -/
def TypeOK (B : Nat) (os : List Gz) (t b : Nat) : Prop := t ≠ 37 ∧ t ≠ 57 ∧ t ≠ 70 ∧ t ≠ 177 ∧ t ≠ 133 ∧ t ≠ 59 ∧ t ≠ 61 ∧ t ≠ 5 ∧ (t = 74 → B ≤ b) ∧ (t = 3 → Far os b)

theorem WQ.okay (h : WQ N B gw gd ims zs os ts vim vsc W) (ht : ∀ b, row = some b → ∃ cs t fr, W.heap[b]? = some (.cells cs t fr) ∧ TypeOK B os t b) : Okay B os W row := by
  intro b e cs t fr hc
  obtain ⟨cs', t', fr', hc', q⟩ := ht b e
  rw [hc'] at hc
  cases hc
  exact ⟨q.1, q.2.1, q.2.2.1, h.apart hc' q.2.2.2.1 q.2.2.2.2.1, q.2.2.2.2.2.1, q.2.2.2.2.2.2.1, q.2.2.2.2.2.2.2.1, q.2.2.2.2.2.2.2.2.1, q.2.2.2.2.2.2.2.2.2⟩
theorem okay_blk (h : WQ N B gw gd ims zs os ts vim vsc W) {g t : Nat} {xs : List Value} (hb : Blk W g t xs) (ht : TypeOK B os t g) : Okay B os W (some g) :=
  h.okay (fun b e => by cases e; exact ⟨_, _, _, hb, ht⟩)
theorem okay_own (h : WQ N B gw gd ims zs os ts vim vsc W) {base e size n : Nat} {v : Value} {xs : List Value} (ho : W.ownsRow base e size v n xs) (ht : ∀ b, v.ownBlock = some b → TypeOK B os e b) : Okay B os W v.ownBlock :=
  h.okay (fun b hb => by
    rcases ho.2 with ⟨rfl, _⟩ | ⟨g, cap, cur, rfl, _, h4, _⟩
    · cases hb
    · cases hb
      exact ⟨_, _, _, h4, ht _ rfl⟩)

/-- keepTokens may be called -/
theorem WQ.lets {ao : Option Addr} {vts vnt : Value} (hao : ∀ g, ao = some ⟨g, 0, none⟩ → B ≤ g) (hf : ∀ b, vnt.ownBlock = some b → Far os b) : Lets gd ao vts vnt (WQ N B gw gd ims zs os ts vim vsc) where
  below := fun W W' h hb => by
    refine h.step (row := none) (fun b e => by cases e) ⟨hb.os, hb.tape, hb.output, hb.size, fun k hk _ => hb.block k hk⟩
  drawer := fun W j u xs h hb => h.step (okay_blk h hb ⟨by decide, by decide, by decide, by decide, by decide, by decide, by decide, by decide, fun e => absurd e (by decide), fun e => absurd e (by decide)⟩) (Lib.grownBy_setCell W gd j u)
  token := fun W g j u xs h ha hb => h.step (okay_blk h hb ⟨by decide, by decide, by decide, by decide, by decide, by decide, by decide, by decide, fun _ => hao g ha, fun e => absurd e (by decide)⟩) (Lib.grownBy_setCell W g j u)
  lists := fun W W' n xs h ho hg => h.step (okay_own h ho (fun _ _ => ⟨by decide, by decide, by decide, by decide, by decide, by decide, by decide, by decide, fun e => absurd e (by decide), fun e => absurd e (by decide)⟩)) hg
  numbers := fun W W' n xs h ho hg => h.step (okay_own h ho (fun b hb => ⟨by decide, by decide, by decide, by decide, by decide, by decide, by decide, by decide, fun e => absurd e (by decide), fun _ => hf b hb⟩)) hg
end

end Go.Proofs.YtmccnmgaoppogaaGreat

namespace Go.Proofs.YtmccnmgaoppogaaGreat
open Go.RowKit

structure WI (N gw gd : Nat) (ims : List ByteArray) (zs : List Gz) (ts : List Tl) (n : Int) (vim vsc vts vnt : Value) (W : World) : Prop where
  q : WQ N W.heap.size gw gd ims zs zs ts vim vsc W
  d : Blk W gd 33 (drC n vts vnt)
  tl : W.ownsRow gd 72 1 vts ts.length (ts.map fun x => .slice x.ao x.cap x.cap)
  tn : W.ownsRow gd 3 1 vnt ts.length (intCells (ts.map (·.m)))
  far : ∀ b, vnt.ownBlock = some b → Far zs b
  ap : ∀ (i j : Nat) (x y : Gz), zs[i]? = some x → zs[j]? = some y → i ≠ j → x.g ≠ y.g ∧ x.gs ≠ y.gs
  up : gd ≤ gw ∧ ∀ x ∈ zs, gd ≤ x.g ∧ gd ≤ x.gs

section
variable {N N' B B' gw gd : Nat} {ims : List ByteArray} {zs os os' : List Gz} {ts : List Tl} {n : Int} {vim vsc vts vnt : Value} {W W1 W2 : World}

theorem WQ.less (h : WQ N B gw gd ims zs os ts vim vsc W) (ho : ∀ x ∈ os', x ∈ os) : WQ N B gw gd ims zs os' ts vim vsc W := ⟨h.w, h.im, h.sc, h.parts, fun x hx => h.gz x (ho x hx), h.sz⟩
theorem WQ.more (h : WQ N B gw gd ims zs os ts vim vsc W) (h1 : B ≤ B') (h2 : B' ≤ W.heap.size) : WQ N B' gw gd ims zs os ts vim vsc W :=
  ⟨h.w, h.im, h.sc, fun x hx => ⟨(h.parts x hx).1, fun g e => Nat.lt_of_lt_of_le ((h.parts x hx).2 g e) h1⟩, h.gz, h2⟩

theorem gauC_set (zs : List Gz) (i : Nat) (x y : Gz) (hx : zs[i]? = some x) (h1 : y.g = x.g) (h2 : y.gs = x.gs) : gauC (zs.set i y) = gauC zs := by
  induction zs generalizing i with
  | nil => rfl
  | cons z r ih =>
    cases i with
    | zero =>
      simp at hx
      subst hx
      simp [gauC, h1, h2]
    | succ i =>
      have := ih i (by simpa using hx)
      simp only [List.set_cons_succ]
      show gauC _ = _
      unfold gauC at *
      simp only [List.flatMap_cons, this]

theorem mem_set_cases {zs : List Gz} {i : Nat} {y z : Gz} (h : z ∈ zs.set i y) : z = y ∨ ∃ j, j ≠ i ∧ zs[j]? = some z := by
  obtain ⟨j, hj⟩ := List.getElem?_of_mem h
  rw [List.getElem?_set] at hj
  split at hj
  · split at hj
    · exact .inl (by cases hj; rfl)
    · cases hj
  · rename_i hne
    exact .inr ⟨j, fun e => hne e.symm, hj⟩

theorem far_set {i : Nat} {x y : Gz} (hx : zs[i]? = some x) (h1 : y.g = x.g) (h2 : y.gs = x.gs) (h3 : y.L = x.L) (h4 : y.L' = x.L') {b : Nat} (h : Far zs b) : Far (zs.set i y) b := by
  intro z hz
  rcases mem_set_cases hz with rfl | ⟨j, _, hj⟩
  · rw [h1, h2, h3, h4]
    exact h x (List.mem_of_getElem? hx)
  · exact h z (List.mem_of_getElem? hj)

/-- both scanners of a gauge have been called -/
theorem WI.fed2 (h : WI N gw gd ims zs ts n vim vsc vts vnt W) {i : Nat} {x : Gz} (hx : zs[i]? = some x) {E2 E2' : Pure.Env} {D : Pure.Cfg} (hg1 : W.grownBy W1 (some x.g)) (hc : ScP (Own x.L x.g) W1 x.g E2 D) (hg2 : W1.grownBy W2 (some x.gs)) (hd : Ds (Own x.L' x.gs) W2 x.gs E2' D) (hs : D.err = 0 → E2 = E2') (hN : N ≤ N') (n1 : E2.s.size ≤ N') (n2 : E2'.s.size ≤ N') :
    WI N' gw gd ims (zs.set i { x with E := E2, E' := E2', C := D }) ts n vim vsc vts vnt W2 := by
  have kx := h.q.gz x (List.mem_of_getElem? hx)
  obtain ⟨xs, b1⟩ := kx.c.blk
  obtain ⟨ys, b2⟩ := kx.d.blk
  obtain ⟨ys', b2'⟩ := hd.blk
  have b2w : Blk W1 x.gs 133 ys := blk_grown b2 hg1 (fun e => blk_ne' b2 b1 (by decide) (Option.some.inj e))
  have oth : ∀ z ∈ zs.eraseIdx i, z ∈ zs ∧ z.g ≠ x.g ∧ z.gs ≠ x.gs := fun z hz => by
    rw [List.mem_eraseIdx_iff_getElem?] at hz
    obtain ⟨j, hj, hz⟩ := hz
    have := h.ap j i z x hz hx hj
    exact ⟨List.mem_of_getElem? hz, this.1, this.2⟩
  have q0 : WQ N W.heap.size gw gd ims zs (zs.eraseIdx i) ts vim vsc W := h.q.less (fun z hz => (oth z hz).1)
  have ok1 : Okay W.heap.size (zs.eraseIdx i) W (some x.g) := by
    intro b e cs t fr hcs
    cases e
    unfold Blk at b1
    rw [b1] at hcs
    cases hcs
    refine ⟨by decide, by decide, by decide, fun z hz => ⟨(oth z hz).2.1, fun e => ?_⟩, by decide, by decide, by decide, fun e => absurd e (by decide), fun e => absurd e (by decide)⟩
    obtain ⟨zs', bz⟩ := (q0.gz z hz).d.blk
    rw [e] at bz
    unfold Blk at bz
    rw [b1] at bz
    simp at bz
  have q1 := q0.step ok1 hg1
  have ok2 : Okay W.heap.size (zs.eraseIdx i) W1 (some x.gs) := by
    intro b e cs t fr hcs
    cases e
    unfold Blk at b2w
    rw [b2w] at hcs
    cases hcs
    refine ⟨by decide, by decide, by decide, fun z hz => ⟨fun e => ?_, (oth z hz).2.2⟩, by decide, by decide, by decide, fun e => absurd e (by decide), fun e => absurd e (by decide)⟩
    obtain ⟨zs', bz⟩ := (q1.gz z hz).c.blk
    rw [e] at bz
    unfold Blk at bz
    rw [b2w] at bz
    simp at bz
  have q2 := q1.step ok2 hg2
  have c2 : ScP (Own x.L x.g) W2 x.g E2 D := by
    obtain ⟨us, bu⟩ := hc.blk
    refine hc.keep ⟨fun e => blk_ne' bu b2w (by decide) (Option.some.inj e), fun b e cs t fr hcs => ?_⟩ hg2
    cases e
    unfold Blk at b2w
    rw [b2w] at hcs
    cases hcs
    exact ⟨by decide, by decide, by decide, fun e => absurd e (by decide)⟩
  have far1 : ∀ {base e size m : Nat} {v : Value} {us : List Value}, W.ownsRow base e size v m us → e ≠ 177 → e ≠ 133 → W2.ownsRow base e size v m us := by
    intro base e size m v us ho h1 h2
    exact own_apart (own_apart ho b1 (fun e => h1 e.symm) hg1) b2w (fun e => h2 e.symm) hg2
  have sz : W.heap.size ≤ W2.heap.size := Nat.le_trans hg1.size hg2.size
  refine ⟨⟨q2.w, q2.im, ?_, fun z hz => ⟨(q2.parts z hz).1, fun g e => Nat.lt_of_lt_of_le ((q2.parts z hz).2 g e) sz⟩, fun z hz => ?_, Nat.le_refl _⟩, ?_, far1 h.tl (by decide) (by decide), far1 h.tn (by decide) (by decide), fun b hb => far_set (y := { x with E := E2, E' := E2', C := D }) hx rfl rfl rfl rfl (h.far b hb), ?_, h.up.1, fun z hz => ?_⟩
  · rw [gauC_set zs i x { x with E := E2, E' := E2', C := D } hx rfl rfl, List.length_set]
    exact q2.sc
  · rcases mem_set_cases hz with rfl | ⟨j, hj, hz'⟩
    · exact ⟨c2, hd, hs, n1, n2⟩
    · have k := q2.gz z (by rw [List.mem_eraseIdx_iff_getElem?]; exact ⟨j, hj, hz'⟩)
      exact ⟨k.c, k.d, k.same, Nat.le_trans k.n1 hN, Nat.le_trans k.n2 hN⟩
  · have d1 := blk_grown h.d hg1 (fun e => blk_ne' h.d b1 (by decide) (Option.some.inj e))
    exact blk_grown d1 hg2 (fun e => blk_ne' d1 b2w (by decide) (Option.some.inj e))
  · intro a b u v hu hv hab
    have key : ∀ (c : Nat) (z : Gz), (zs.set i { x with E := E2, E' := E2', C := D })[c]? = some z → ∃ z', zs[c]? = some z' ∧ z.g = z'.g ∧ z.gs = z'.gs := by
      intro c z hc
      rw [List.getElem?_set] at hc
      split at hc
      · rename_i e
        subst e
        split at hc
        · cases hc
          exact ⟨x, hx, rfl, rfl⟩
        · cases hc
      · exact ⟨z, hc, rfl, rfl⟩
    obtain ⟨u', hu', e1, e2⟩ := key a u hu
    obtain ⟨v', hv', e3, e4⟩ := key b v hv
    rw [e1, e2, e3, e4]
    exact h.ap a b u' v' hu' hv' hab
  · rcases mem_set_cases hz with rfl | ⟨j, hj, hz'⟩
    · exact h.up.2 x (List.mem_of_getElem? hx)
    · exact h.up.2 z (List.mem_of_getElem? hz')
end

end Go.Proofs.YtmccnmgaoppogaaGreat

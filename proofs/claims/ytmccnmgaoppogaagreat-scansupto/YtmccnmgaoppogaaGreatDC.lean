/-
  The walks: fed. (weirlaw)
  The walks: begun. (weirlaw)
-/
import Derived.Test.YtmccnmgaoppogaaGreatDB
namespace Go.Proofs.YtmccnmgaoppogaaGreat
open Go.RowKit

section
variable {N B gw gd : Nat} {ims : List ByteArray} {zs os : List Gz} {ts : List Tl} {n : Int} {vim vsc vts vnt : Value} {W W' : World}

theorem WQ.below (h : WQ N B gw gd ims zs os ts vim vsc W) (hb : Below W.heap.size W W') : WQ N B gw gd ims zs os ts vim vsc W' :=
  h.step (row := none) (fun b e => by cases e) ⟨hb.os, hb.tape, hb.output, hb.size, fun k hk _ => hb.block k hk⟩
theorem WI.below (h : WI N gw gd ims zs ts n vim vsc vts vnt W) (hb : Below W.heap.size W W') : WI N gw gd ims zs ts n vim vsc vts vnt W' :=
  ⟨(h.q.below hb).more hb.size (Nat.le_refl _), blk_below h.d hb (blk_lt h.d), own_below h.tl hb (Nat.le_refl _), own_below h.tn hb (Nat.le_refl _), h.far, h.ap, h.up⟩

/-- a list that a call has given -/
theorem part_of {base len : Nat} {ao : Option Addr} {cap : Nat} {xs : List Value} {v : Value} (h : W.ownsRow base 74 5 (.slice ao len cap) len xs) : Part W ao cap 0 v ∧ ∀ g, ao = some ⟨g, 0, none⟩ → base ≤ g := by
  rcases h.2 with ⟨h1, _⟩ | ⟨g, cap', cur, h1, h3, h4, h5, h6, h7, _⟩
  · cases h1
    exact ⟨.inl ⟨rfl, rfl⟩, fun g e => by cases e⟩
  · cases h1
    refine ⟨.inr ⟨g, cur.toList, rfl, ?_, by simp; omega⟩, fun g' e => by cases e; exact h3⟩
    unfold Blk
    simpa using h4
theorem Part.lt {ao : Option Addr} {cap i : Nat} {v : Value} (h : Part W ao cap i v) {g : Nat} (e : ao = some ⟨g, 0, none⟩) : g < W.heap.size := by
  rcases h with ⟨h1, _⟩ | ⟨g', old, h1, h2, _⟩
  · rw [h1] at e; cases e
  · rw [h1] at e
    cases e
    exact blk_lt h2

/-- the list lies in the drawer -/
theorem WI.kept {ao : Option Addr} {cap : Nat} {vts' vnt' vnt0 : Value} (hk : KT (WQ N B gw gd ims zs zs ts vim vsc) gd ao cap cap (.int .i64 (n + 1)) (n + 1) vts' vnt' (ts.length + 1) (ts.length + 1) ((ts.map fun x => .slice x.ao x.cap x.cap) ++ [.slice ao cap cap]) (intCells (ts.map (·.m)) ++ [.int .i64 (n + 1)]) W)
    (hb : ∀ b, vnt'.ownBlock = some b → vnt0.ownBlock = some b ∨ ∃ W, WQ N B gw gd ims zs zs ts vim vsc W ∧ W.heap.size ≤ b) (hf : ∀ b, vnt0.ownBlock = some b → Far zs b)
    (ap : ∀ (i j : Nat) (x y : Gz), zs[i]? = some x → zs[j]? = some y → i ≠ j → x.g ≠ y.g ∧ x.gs ≠ y.gs) (up : gd ≤ gw ∧ ∀ x ∈ zs, gd ≤ x.g ∧ gd ≤ x.gs) :
    WI N gw gd ims zs (ts ++ [⟨ao, cap, n + 1⟩]) (n + 1) vim vsc vts' vnt' W := by
  refine ⟨⟨hk.q.w, hk.q.im, hk.q.sc, fun z hz => ?_, hk.q.gz, Nat.le_refl _⟩, hk.d, ?_, ?_, fun b e => ?_, ap, up⟩
  · rcases List.mem_append.1 hz with h | h
    · exact ⟨(hk.q.parts z h).1, fun g e => (hk.q.parts z h).1.lt e⟩
    · simp at h
      subst h
      exact ⟨hk.t, fun g e => hk.t.lt e⟩
  · simpa using hk.l
  · simpa [intCells] using hk.n
  · rcases hb b e with h | ⟨V, hV, hl⟩
    · exact hf b h
    · intro z hz
      have k := hV.gz z hz
      obtain ⟨xs, b1⟩ := k.c.blk
      obtain ⟨ys, b2⟩ := k.d.blk
      have := blk_lt b1
      have := blk_lt b2
      omega
end

/-- no step of a script is written into -/
def OpKept (w w' : World) : Prop := ∀ ga ys, Blk w ga 45 ys → Blk w' ga 45 ys
theorem OpKept.trans {a b c : World} (h : OpKept a b) (h' : OpKept b c) : OpKept a c := fun _ _ k => h' _ _ (h _ _ k)
theorem OpKept.alloc (w : World) (o : Obj) : OpKept w (w.alloc o) := fun _ _ k => blk_alloc k o
theorem OpKept.below {w w' : World} (hb : Below w.heap.size w w') : OpKept w w' := fun _ _ k => blk_below k hb (blk_lt k)
theorem OpKept.grown {w w' : World} {g t : Nat} {xs : List Value} (hb : Blk w g t xs) (ht : 45 ≠ t) (hg : w.grownBy w' (some g)) : OpKept w w' := fun _ _ k => blk_grown k hg (fun e => blk_ne' k hb ht (Option.some.inj e))
theorem OpKept.row {w w' : World} {base e size n : Nat} {v : Value} {xs : List Value} (h : w.ownsRow base e size v n xs) (ht : 45 ≠ e) (hg : w.grownBy w' v.ownBlock) : OpKept w w' := fun _ _ k => far_blk h k ht hg
theorem OpKept.cell {w : World} {g t : Nat} {xs : List Value} (hb : Blk w g t xs) (ht : 45 ≠ t) (j : Nat) (u : Value) : OpKept w (w.setCell ⟨g, j, none⟩ u) := fun _ _ k => blk_other k (blk_ne' k hb ht) j u
/-- .. nor anything that was there ahead of the drawer -/
structure Kept (gd : Nat) (w w' : World) : Prop where
  op : OpKept w w'
  lo : Below gd w w'
theorem Kept.trans {gd : Nat} {a b c : World} (h : Kept gd a b) (h' : Kept gd b c) : Kept gd a c := ⟨h.op.trans h'.op, h.lo.trans h'.lo⟩
theorem Kept.alloc {gd : Nat} {w : World} (hd : gd ≤ w.heap.size) (o : Obj) : Kept gd w (w.alloc o) := ⟨.alloc w o, (Below.refl _ _).alloc hd o⟩
theorem Kept.below {gd : Nat} {w w' : World} (hd : gd ≤ w.heap.size) (hb : Below w.heap.size w w') : Kept gd w w' := ⟨.below hb, hb.mono hd⟩
theorem Kept.grown {gd : Nat} {w w' : World} {g t : Nat} {xs : List Value} (hd : gd ≤ g) (hb : Blk w g t xs) (ht : 45 ≠ t) (hg : w.grownBy w' (some g)) : Kept gd w w' :=
  ⟨.grown hb ht hg, (Below.refl _ _).grown hg (by have := blk_lt hb; omega) (fun k e => by cases e; exact hd)⟩
theorem Kept.row {gd : Nat} {w w' : World} {e size n : Nat} {v : Value} {xs : List Value} (hd : gd ≤ w.heap.size) (h : w.ownsRow gd e size v n xs) (ht : 45 ≠ e) (hg : w.grownBy w' v.ownBlock) : Kept gd w w' :=
  ⟨.row h ht hg, (Below.refl _ _).grown hg hd (fun k hk => (World.ownsRow.lt h k hk).1)⟩
theorem Kept.cell {gd : Nat} {w : World} {g t : Nat} {xs : List Value} (hd : gd ≤ g) (hb : Blk w g t xs) (ht : 45 ≠ t) (j : Nat) (u : Value) : Kept gd w (w.setCell ⟨g, j, none⟩ u) := ⟨.cell hb ht j u, (Below.refl _ _).setCell hd u⟩
theorem Kept.lets {w : World} {gd : Nat} {ao : Option Addr} (vts vnt : Value) (hd : gd ≤ w.heap.size) (ha : ∀ g, ao = some ⟨g, 0, none⟩ → gd ≤ g) : Lets gd ao vts vnt (Kept gd w) where
  below := fun _ _ h hb => h.trans (.below (Nat.le_trans hd h.lo.size) hb)
  drawer := fun _ _ _ _ h hb => h.trans (.cell (Nat.le_refl _) hb (by decide) _ _)
  token := fun _ g _ _ _ h e hb => h.trans (.cell (ha g e) hb (by decide) _ _)
  lists := fun _ _ _ _ h ho hg => h.trans (.row (Nat.le_trans hd h.lo.size) ho (by decide) hg)
  numbers := fun _ _ _ _ h ho hg => h.trans (.row (Nat.le_trans hd h.lo.size) ho (by decide) hg)
theorem Lets.and {gd : Nat} {ao : Option Addr} {vts vnt : Value} {Q R : World → Prop} (h : Lets gd ao vts vnt Q) (k : Lets gd ao vts vnt R) : Lets gd ao vts vnt (fun W => Q W ∧ R W) where
  below := fun _ _ z hb => ⟨h.below _ _ z.1 hb, k.below _ _ z.2 hb⟩
  drawer := fun _ _ _ _ z hb => ⟨h.drawer _ _ _ _ z.1 hb, k.drawer _ _ _ _ z.2 hb⟩
  token := fun _ _ _ _ _ z e hb => ⟨h.token _ _ _ _ _ z.1 e hb, k.token _ _ _ _ _ z.2 e hb⟩
  lists := fun _ _ _ _ z ho hg => ⟨h.lists _ _ _ _ z.1 ho hg, k.lists _ _ _ _ z.2 ho hg⟩
  numbers := fun _ _ _ _ z ho hg => ⟨h.numbers _ _ _ _ z.1 ho hg, k.numbers _ _ _ _ z.2 ho hg⟩

def RetFd (N gw gd i : Nat) (ims : List ByteArray) (zs : List Gz) (ts : List Tl) (n : Int) (vim vsc : Value) (x : Gz) (w : World) (e : Ending) (w' : World) : Prop :=
  e = .returned (.bool true) ∧ Kept gd w w' ∧ ∃ E2 E2' D t vts vnt, t.cap ≤ 9223372036854775807 ∧ WI N gw gd ims (zs.set i { x with E := E2, E' := E2', C := D }) (ts ++ [t]) (n + 1) vim vsc vts vnt w'

set_option maxRecDepth 100000 in
set_option maxHeartbeats 4000000 in
theorem fed_any (N gw gd i : Nat) (ims : List ByteArray) (zs : List Gz) (ts : List Tl) (n : Int) (vim vsc vts vnt : Value) (x : Gz) (kind on a b : Int) (s : ByteArray) (ae ar ac : Option Addr) (ne ce nr cr nc cc : Nat) (w : World) (h : WI N gw gd ims zs ts n vim vsc vts vnt w) (hx : zs[i]? = some x) (hN : N + s.size ≤ 1099511627776) (hn : 0 ≤ n ∧ n ≤ 1099511627776) (hts : ts.length ≤ 1099511627776) :
    Calls Tryz.prog 18 #[.pointer (some ⟨gw, 0, none⟩), .agg #[.pointer (some ⟨x.g, 0, none⟩), .pointer (some ⟨x.gs, 0, none⟩)], .agg #[.int .i64 kind, .int .i64 on, .int .i64 a, .int .i64 b, .string s, .slice ae ne ce, .slice ar nr cr, .slice ac nc cc]] w (RetFd (N + s.size) gw gd i ims zs ts n vim vsc x w) := by
  have H0 := hide ((h.below ((Below.refl _ _).alloc (Nat.le_refl _) (.cells #[.pointer (some ⟨x.g, 0, none⟩), .pointer (some ⟨x.gs, 0, none⟩)] 70))).below ((Below.refl _ _).alloc (Nat.le_refl _) (.cells #[.int .i64 kind, .int .i64 on, .int .i64 a, .int .i64 b, .string s, .slice ae ne ce, .slice ar nr cr, .slice ac nc cc] 45)))
  have KG : Hid (Blk ((w.alloc (.cells #[.pointer (some ⟨x.g, 0, none⟩), .pointer (some ⟨x.gs, 0, none⟩)] 70)).alloc (.cells #[.int .i64 kind, .int .i64 on, .int .i64 a, .int .i64 b, .string s, .slice ae ne ce, .slice ar nr cr, .slice ac nc cc] 45)) w.heap.size 70 [.pointer (some ⟨x.g, 0, none⟩), .pointer (some ⟨x.gs, 0, none⟩)]) := blk_alloc (heap_alloc_new w _) _
  have KO : Hid (Blk ((w.alloc (.cells #[.pointer (some ⟨x.g, 0, none⟩), .pointer (some ⟨x.gs, 0, none⟩)] 70)).alloc (.cells #[.int .i64 kind, .int .i64 on, .int .i64 a, .int .i64 b, .string s, .slice ae ne ce, .slice ar nr cr, .slice ac nc cc] 45)) (w.heap.size + 1) 45 [.int .i64 kind, .int .i64 on, .int .i64 a, .int .i64 b, .string s, .slice ae ne ce, .slice ar nr cr, .slice ac nc cc]) := by
    have z := heap_alloc_new (w.alloc (.cells #[.pointer (some ⟨x.g, 0, none⟩), .pointer (some ⟨x.gs, 0, none⟩)] 70)) (.cells #[.int .i64 kind, .int .i64 on, .int .i64 a, .int .i64 b, .string s, .slice ae ne ce, .slice ar nr cr, .slice ac nc cc] 45)
    rw [World.size_alloc] at z
    exact z
  have HX := hide hx
  have DLW : Hid (∀ v : World, v = w → gd ≤ v.heap.size) := fun v e => by rw [e]; exact Nat.le_of_lt (blk_lt h.d)
  have OP0 : Hid (Kept gd w ((w.alloc (.cells #[.pointer (some ⟨x.g, 0, none⟩), .pointer (some ⟨x.gs, 0, none⟩)] 70)).alloc (.cells #[.int .i64 kind, .int .i64 on, .int .i64 a, .int .i64 b, .string s, .slice ae ne ce, .slice ar nr cr, .slice ac nc cc] 45))) := (Kept.alloc (Nat.le_of_lt (blk_lt h.d)) _).trans (.alloc (by have := blk_lt h.d; simp; omega) _)
  clear h hx
  go_enter Tryz.func18, Tryz.ntmps18
  go_upto_if 14 with (fail)
  generalize (w.alloc (.cells #[.pointer (some ⟨x.g, 0, none⟩), .pointer (some ⟨x.gs, 0, none⟩)] 70)).alloc (.cells #[.int .i64 kind, .int .i64 on, .int .i64 a, .int .i64 b, .string s, .slice ae ne ce, .slice ar nr cr, .slice ac nc cc] 45) = W0 at *
  generalize w.heap.size = ga at *
  have DL0 : Hid (gd ≤ w.heap.size ∧ gd ≤ W0.heap.size) := ⟨DLW.out w rfl, Nat.le_of_lt (blk_lt H0.out.d)⟩
  have PB : Hid (∀ z ∈ ts, ∀ g, z.ao = some ⟨g, 0, none⟩ → g < W0.heap.size) := fun z hz => (H0.out.q.parts z hz).2
  go_cut [7, 8, 9, 10] from 12 (fun lv mv ev fv wx => ∃ D T E2 E2' code, ev = .int .i64 code ∧ fv = .int .i64 code ∧ W0.heap.size ≤ wx.heap.size ∧ wx.ownsRow W0.heap.size 74 5 lv T.length (tokCells T) ∧ wx.ownsRow W0.heap.size 74 5 mv T.length (tokCells T) ∧ WI (N + s.size) gw gd ims (zs.set i { x with E := E2, E' := E2', C := D }) ts n vim vsc vts vnt wx ∧ Kept gd W0 wx)
  case first =>
    have kx := H0.out.q.gz x (List.mem_of_getElem? HX.out)
    have g0 := blk_cell (j := 0) KG.out rfl
    have g1 := blk_cell (j := 1) KG.out rfl
    have o4 := blk_cell (j := 4) KO.out rfl
    by_cases hk : kind = 3
    · subst hk
      have CF := hide (codeFeed x.L x.g x.E x.C s W0 kx.c (by have := kx.n1; omega))
      go_wp2_with fail
      refine CF.out.mono ?_
      clear CF
      rintro e W1 ⟨D, T, vt, E2, code, rfl, ho, hS, hg, hz, l1, l2⟩
      have S1 : Hid (ScP (Own x.L x.g) W1 x.g E2 D) := hS
      have G1 := hide hg
      have O1 := hide ho
      have LL := hide (And.intro hz (And.intro l1 l2))
      obtain ⟨us, bu⟩ := kx.c.blk
      obtain ⟨vs, bv⟩ := kx.d.blk
      have KD : Hid (Ds (Own x.L' x.gs) W1 x.gs x.E' x.C) := kx.d.keep ⟨fun e => blk_ne' bv bu (by decide) (Option.some.inj e), fun b' e cs t fr hcs => by
        cases e
        unfold Blk at bu
        rw [bu] at hcs
        cases hcs
        exact ⟨by decide, by decide, by decide, fun e => absurd e (by decide)⟩⟩ hg
      have KG1 := hide (blk_grown KG.out hg (fun e => blk_ne' KG.out bu (by decide) (Option.some.inj e)))
      have KO1 := hide (blk_grown KO.out hg (fun e => blk_ne' KO.out bu (by decide) (Option.some.inj e)))
      have NE : Hid (x.E.s.size ≤ N ∧ x.E'.s.size ≤ N) := ⟨kx.n1, kx.n2⟩
      have SM : Hid (x.C.err = 0 → x.E = x.E') := kx.same
      have OP1 : Hid (Kept gd W0 W1) := .grown (H0.out.up.2 x (List.mem_of_getElem? HX.out)).1 bu (by decide) hg
      have BV := hide (blk_grown bv hg (fun e => blk_ne' bv bu (by decide) (Option.some.inj e)))
      obtain ⟨q1, q2, q3, f', -, -, -, gd', hr'⟩ := kx.d
      have GR := hide (And.intro gd' hr')
      clear hS hg ho hz l1 l2 bu bv gd' hr' kx g0 g1 o4
      have g1 := blk_cell (j := 1) KG1.out rfl
      have o4 := blk_cell (j := 4) KO1.out rfl
      have DF := hide (docFeed x.L' x.gs x.E' x.C s W1 KD.out (by have := NE.out.2; omega))
      go_wp2_with fail
      refine DF.out.mono ?_
      clear DF
      rintro e W2 ⟨D', T', vo, F2, code', rfl, ho', hS', hg', hz', m1, m2⟩
      obtain ⟨eD, eT, eC, eE⟩ := both_same GR.out.1 GR.out.2 SM.out LL.out.2.1 LL.out.2.2 m1 m2
      subst eD eT eC
      have FIN := hide (H0.out.fed2 HX.out (N' := N + s.size) G1.out S1.out hg' hS' eE (by omega) (by have := LL.out.1; rw [Pure.on_size] at this; have := NE.out.1; omega) (by rw [Pure.on_size] at hz'; have := NE.out.2; omega))
      have O2 : Hid (W2.ownsRow W0.heap.size 74 5 vt T'.length (tokCells T')) := own_apart O1.out BV.out (by decide) hg'
      have O3 : Hid (W2.ownsRow W0.heap.size 74 5 vo T'.length (tokCells T')) := own_mono ho' G1.out.size
      have OP2 : Hid (Kept gd W0 W2) := OP1.out.trans (.grown (H0.out.up.2 x (List.mem_of_getElem? HX.out)).2 BV.out (by decide) hg')
      have SZ : Hid (W0.heap.size ≤ W2.heap.size) := Nat.le_trans G1.out.size hg'.size
      clear ho' hS' hg' hz' m1 m2 eE
      go_wp2
      go_meet
      case rel => exact ⟨D', T', E2, F2, code', rfl, rfl, SZ.out, O2.out, O3.out, FIN.out, OP2.out⟩
    · have dk : (kind == 3) = false := by simpa using hk
      have CF := hide (codeFinish x.L x.g x.E x.C W0 kx.c (by have := kx.n1; omega))
      go_wp2_with fail
      refine CF.out.mono ?_
      clear CF
      rintro e W1 ⟨D, T, vt, E2, code, rfl, ho, hS, hg, hz, l1, l2⟩
      have S1 : Hid (ScP (Own x.L x.g) W1 x.g E2 D) := hS
      have G1 := hide hg
      have O1 := hide ho
      have LL := hide (And.intro hz (And.intro l1 l2))
      obtain ⟨us, bu⟩ := kx.c.blk
      obtain ⟨vs, bv⟩ := kx.d.blk
      have KD : Hid (Ds (Own x.L' x.gs) W1 x.gs x.E' x.C) := kx.d.keep ⟨fun e => blk_ne' bv bu (by decide) (Option.some.inj e), fun b' e cs t fr hcs => by
        cases e
        unfold Blk at bu
        rw [bu] at hcs
        cases hcs
        exact ⟨by decide, by decide, by decide, fun e => absurd e (by decide)⟩⟩ hg
      have KG1 := hide (blk_grown KG.out hg (fun e => blk_ne' KG.out bu (by decide) (Option.some.inj e)))
      have KO1 := hide (blk_grown KO.out hg (fun e => blk_ne' KO.out bu (by decide) (Option.some.inj e)))
      have NE : Hid (x.E.s.size ≤ N ∧ x.E'.s.size ≤ N) := ⟨kx.n1, kx.n2⟩
      have SM : Hid (x.C.err = 0 → x.E = x.E') := kx.same
      have OP1 : Hid (Kept gd W0 W1) := .grown (H0.out.up.2 x (List.mem_of_getElem? HX.out)).1 bu (by decide) hg
      have BV := hide (blk_grown bv hg (fun e => blk_ne' bv bu (by decide) (Option.some.inj e)))
      obtain ⟨q1, q2, q3, f', -, -, -, gd', hr'⟩ := kx.d
      have GR := hide (And.intro gd' hr')
      clear hS hg ho hz l1 l2 bu bv gd' hr' kx g0 g1 o4
      have g1 := blk_cell (j := 1) KG1.out rfl
      have o4 := blk_cell (j := 4) KO1.out rfl
      have DF := hide (docFinish x.L' x.gs x.E' x.C W1 KD.out (by have := NE.out.2; omega))
      go_wp2_with fail
      refine DF.out.mono ?_
      clear DF
      rintro e W2 ⟨D', T', vo, F2, code', rfl, ho', hS', hg', hz', m1, m2⟩
      obtain ⟨eD, eT, eC, eE⟩ := both_same GR.out.1 GR.out.2 SM.out LL.out.2.1 LL.out.2.2 m1 m2
      subst eD eT eC
      have FIN := hide (H0.out.fed2 HX.out (N' := N + s.size) G1.out S1.out hg' hS' eE (by omega) (by have := LL.out.1; rw [Pure.on_size] at this; have := NE.out.1; have z : noBytes.size = 0 := rfl; omega) (by rw [Pure.on_size] at hz'; have := NE.out.2; have z : noBytes.size = 0 := rfl; omega))
      have O2 : Hid (W2.ownsRow W0.heap.size 74 5 vt T'.length (tokCells T')) := own_apart O1.out BV.out (by decide) hg'
      have O3 : Hid (W2.ownsRow W0.heap.size 74 5 vo T'.length (tokCells T')) := own_mono ho' G1.out.size
      have OP2 : Hid (Kept gd W0 W2) := OP1.out.trans (.grown (H0.out.up.2 x (List.mem_of_getElem? HX.out)).2 BV.out (by decide) hg')
      have SZ : Hid (W0.heap.size ≤ W2.heap.size) := Nat.le_trans G1.out.size hg'.size
      clear ho' hS' hg' hz' m1 m2 eE
      go_wp2
      go_meet
      case rel => exact ⟨D', T', E2, F2, code', rfl, rfl, SZ.out, O2.out, O3.out, FIN.out, OP2.out⟩
  case rest =>
    obtain ⟨D, T, E2, E2', code, rfl, rfl, hsz, hl, hm, hW, hop⟩ := hcut
    obtain ⟨ao, cap, rfl, hc1, hc2⟩ := own_form hl
    have SA := hide (sameTokensL _ _ T wc _ _ hl hm)
    have HL := hide hl
    have HW := hide hW
    have OPC := hide hop
    have HZ := hide hsz
    clear hl hm hW hsz hop H0 KG KO
    go_wp2_with fail
    refine SA.out.mono ?_
    clear SA
    rintro e w3 ⟨rfl, hb3⟩
    have H3 := hide (HW.out.below hb3)
    have P3 := hide (part_of (v := .int .i64 (n + 1)) (own_below HL.out hb3 (Nat.le_refl _)))
    have Q3 : Hid (WQ (N + s.size) W0.heap.size gw gd ims (zs.set i { x with E := E2, E' := E2', C := D }) (zs.set i { x with E := E2, E' := E2', C := D }) ts vim vsc w3) := ⟨H3.out.q.w, H3.out.q.im, H3.out.q.sc, fun z hz => ⟨(H3.out.q.parts z hz).1, PB.out z hz⟩, H3.out.q.gz, Nat.le_trans HZ.out hb3.size⟩
    have OP3 : Hid (Kept gd w w3) := (OP0.out.trans OPC.out).trans (.below (Nat.le_of_lt (blk_lt HW.out.d)) hb3)
    have DL : Hid (gd ≤ w.heap.size ∧ gd ≤ W0.heap.size) := DL0.out
    have KP := hide (keepTokens_any (fun W => WQ (N + s.size) W0.heap.size gw gd ims (zs.set i { x with E := E2, E' := E2', C := D }) (zs.set i { x with E := E2, E' := E2', C := D }) ts vim vsc W ∧ Kept gd w W) gd ao T.length cap n vts vnt ts.length ts.length (ts.map fun x => .slice x.ao x.cap x.cap) (intCells (ts.map (·.m))) w3 ((WQ.lets P3.out.2 H3.out.far).and (Kept.lets vts vnt DL.out.1 (fun g e => Nat.le_trans DL.out.2 (P3.out.2 g e)))) hn hc2 ⟨hts, hts⟩ ⟨⟨Q3.out, OP3.out⟩, H3.out.d, P3.out.1, H3.out.tl, H3.out.tn⟩)
    have c2 := blk_cell (j := 2) H3.out.q.w rfl
    clear hb3 P3 Q3
    go_wp2_with fail
    refine KP.out.mono ?_
    clear KP c2
    rintro e w4 ⟨rfl, vts', vnt', hk, hbl⟩
    have WF := hide (WI.kept ⟨hk.q.1, hk.d, hk.t, hk.l, hk.n⟩ (fun b hb => (hbl b hb).imp id (fun ⟨V, hV, hl⟩ => ⟨V, hV.1, hl⟩)) H3.out.far H3.out.ap H3.out.up)
    have OP4 := hide hk.q.2
    clear hk hbl
    go_wp2_with fail
    refine (num_any code _).mono ?_
    rintro e w5 ⟨rfl, rfl⟩
    go_wp2
    go_ret
    exact ⟨rfl, OP4.out, E2, E2', D, ⟨ao, cap, n + 1⟩, vts', vnt', hc2, WF.out⟩

end Go.Proofs.YtmccnmgaoppogaaGreat

namespace Go.Proofs.YtmccnmgaoppogaaGreat
open Go.RowKit

theorem Tryz.infg70 : (Tryz.prog.info? 70).map (fun i => (i.zero, i.size, i.bytes)) = some (some (.agg #[.pointer none, .pointer none]), 2, 16) := by kernel_rfl

theorem gauC_snoc (zs : List Gz) (x : Gz) : gauC (zs ++ [x]) = gauC zs ++ [.pointer (some ⟨x.g, 0, none⟩), .pointer (some ⟨x.gs, 0, none⟩)] := by simp [gauC]

section
variable {N gw gd : Nat} {ims : List ByteArray} {zs : List Gz} {ts : List Tl} {n : Int} {vim vsc vts vnt : Value} {W W' : World}

/-- a gauge more -/
theorem WI.gauge (h : WI N gw gd ims zs ts n vim vsc vts vnt W) {x : Gz} {v2 : Value} (hx : GOK N W x) (hup : gd ≤ x.g ∧ gd ≤ x.gs) (hg : W.grownBy W' vsc.ownBlock) (ho : W'.ownsRow gd 70 2 v2 (zs.length + 1) (gauC zs ++ [.pointer (some ⟨x.g, 0, none⟩), .pointer (some ⟨x.gs, 0, none⟩)]))
    (hf : ∀ b, vnt.ownBlock = some b → ¬(x.L ≤ b ∧ b < x.g) ∧ ¬(x.L' ≤ b ∧ b < x.gs)) (hn : ∀ y ∈ zs, y.g ≠ x.g ∧ y.gs ≠ x.gs) :
    WI N gw gd ims (zs ++ [x]) ts n vim v2 vts vnt (W'.setCell ⟨gw, 1, none⟩ v2) := by
  have w1 := far_blk h.q.sc h.q.w (by decide) hg
  have hs := Lib.grownBy_setCell W' gw 1 v2
  have kp : ∀ (y : Gz), GOK N W y → GOK N (W'.setCell ⟨gw, 1, none⟩ v2) y := by
    intro y k
    obtain ⟨xs, b1⟩ := k.c.blk
    obtain ⟨ys, b2⟩ := k.d.blk
    have sf : ∀ (L g : Nat) (t : TypeId) (us : List Value), Blk W g t us → t ≠ 70 → Safe W L g vsc.ownBlock := by
      intro L g t us hb ht
      refine ⟨fun e => ?_, fun b e cs t' fr hc => ?_⟩
      · rcases h.q.sc.2 with ⟨e1, _⟩ | ⟨g', cap, cur, e1, _, h4, _⟩
        · rw [e1] at e; cases e
        · rw [e1] at e
          cases e
          unfold Blk at hb
          rw [hb] at h4
          cases h4
          exact ht rfl
      · rcases h.q.sc.2 with ⟨e1, _⟩ | ⟨g', cap, cur, e1, _, h4, _⟩
        · rw [e1] at e; cases e
        · rw [e1] at e
          cases e
          rw [h4] at hc
          cases hc
          exact ⟨by decide, by decide, by decide, fun e => absurd e (by decide)⟩
    have sf2 : ∀ (L g : Nat) (t : TypeId) (us : List Value), Blk W' g t us → t ≠ 37 → Safe W' L g (some gw) := by
      intro L g t us hb ht
      refine ⟨fun e => blk_ne' hb w1 ht (Option.some.inj e), fun b e cs t' fr hc => ?_⟩
      cases e
      unfold Blk at w1
      rw [w1] at hc
      cases hc
      exact ⟨by decide, by decide, by decide, fun e => absurd e (by decide)⟩
    have c1 := k.c.keep (sf _ _ _ _ b1 (by decide)) hg
    have d1 := k.d.keep (sf _ _ _ _ b2 (by decide)) hg
    obtain ⟨xs', b1'⟩ := c1.blk
    obtain ⟨ys', b2'⟩ := d1.blk
    exact ⟨c1.keep (sf2 _ _ _ _ b1' (by decide)) hs, d1.keep (sf2 _ _ _ _ b2' (by decide)) hs, k.same, k.n1, k.n2⟩
  have d1 := far_blk h.q.sc h.d (by decide) hg
  have sz : (W'.setCell ⟨gw, 1, none⟩ v2).heap.size = W'.heap.size := by simp [World.setCell]
  refine ⟨⟨blk_set w1 1 v2, own_apart (own_other h.q.im h.q.sc (by decide) hg) w1 (by decide) hs, ?_, fun z hz => ⟨?_, fun g e => ?_⟩, fun z hz => ?_, Nat.le_refl _⟩, blk_other d1 (blk_ne' d1 w1 (by decide)) _ _, own_apart (own_other h.tl h.q.sc (by decide) hg) w1 (by decide) hs, own_apart (own_other h.tn h.q.sc (by decide) hg) w1 (by decide) hs, fun b hb z hz => ?_, ?_, h.up.1, fun z hz => ?_⟩
  · rw [gauC_snoc, List.length_append, List.length_singleton]
    exact own_apart ho w1 (by decide) hs
  · refine (h.q.parts z hz).1.keep (fun g xs _ hb => ?_)
    have b1 := far_blk h.q.sc hb (by decide) hg
    exact blk_other b1 (blk_ne' b1 w1 (by decide)) _ _
  · have := (h.q.parts z hz).2 g e
    have := hg.size
    rw [sz]
    omega
  · rcases List.mem_append.1 hz with hz | hz
    · exact kp z (h.q.gz z hz)
    · simp at hz
      subst hz
      exact kp z hx
  · rcases List.mem_append.1 hz with hz | hz
    · exact h.far b hb z hz
    · simp at hz
      subst hz
      exact hf b hb
  · intro i j u v hu hv hij
    rw [List.getElem?_append] at hu hv
    split at hu <;> split at hv
    · exact h.ap i j u v hu hv hij
    · have e : v = x := by
        rw [List.getElem?_singleton] at hv
        split at hv
        · cases hv; rfl
        · cases hv
      subst e
      exact hn u (List.mem_of_getElem? hu)
    · have e : u = x := by
        rw [List.getElem?_singleton] at hu
        split at hu
        · cases hu; rfl
        · cases hu
      subst e
      have := hn v (List.mem_of_getElem? hv)
      exact ⟨fun e => this.1 e.symm, fun e => this.2 e.symm⟩
    · rw [List.getElem?_singleton] at hu hv
      split at hu
      · split at hv
        · omega
        · cases hv
      · cases hu
  · rcases List.mem_append.1 hz with hz | hz
    · exact h.up.2 z hz
    · simp at hz
      subst hz
      exact hup
end

def RetBg (N gw gd : Nat) (ims : List ByteArray) (zs : List Gz) (ts : List Tl) (n : Int) (vim vsc vts vnt : Value) (s : ByteArray) (most depth : Int) (w : World) (e : Ending) (w' : World) : Prop :=
  e = .returned (.bool true) ∧ Kept gd w w' ∧ ((¬StartOK s most depth ∧ WI N gw gd ims zs ts n vim vsc vts vnt w') ∨ (StartOK s most depth ∧ ∃ x v2, WI N gw gd ims (zs ++ [x]) ts n vim v2 vts vnt w'))

set_option maxRecDepth 100000 in
set_option maxHeartbeats 4000000 in
theorem begun_any (N gw gd : Nat) (ims : List ByteArray) (zs : List Gz) (ts : List Tl) (n : Int) (vim vsc vts vnt : Value) (s : ByteArray) (most depth : Int) (w : World) (h : WI N gw gd ims zs ts n vim vsc vts vnt w) (hs : s.size ≤ 9223372036854775807) (rm : Rng most) (rd : Rng depth) (hz : zs.length ≤ 1099511627776) :
    Calls Tryz.prog 16 #[.pointer (some ⟨gw, 0, none⟩), .agg #[.string s, .pointer none], .int .i64 most, .int .i64 depth] w (RetBg N gw gd ims zs ts n vim vsc vts vnt s most depth w) := by
  obtain ⟨ig, hig, hg0, hg1, hg2⟩ := info_parts Tryz.infg70
  have H0 := hide (h.below ((Below.refl _ _).alloc (Nat.le_refl _) (.cells #[.string s, .pointer none] 57)))
  have KI : Hid (Blk (w.alloc (.cells #[.string s, .pointer none] 57)) w.heap.size 57 [.string s, .pointer none]) := heap_alloc_new w _
  have OP0 : Hid (Kept gd w (w.alloc (.cells #[.string s, .pointer none] 57))) := .alloc (Nat.le_of_lt (blk_lt h.d)) _
  clear h
  go_enter Tryz.func16, Tryz.ntmps16
  go_wp2_with fail
  generalize w.alloc (.cells #[.string s, .pointer none] 57) = W0 at *
  generalize w.heap.size = ga at *
  refine (start_anyP s most depth W0 hs rm rd).mono ?_
  rintro e W1 (⟨hOK, g, rfl, hge, hB1, hS⟩ | ⟨hF, rfl, hB1⟩ | ⟨hF, hM, rfl, hB1⟩)
  · have H1 := hide (H0.out.below hB1)
    have OP1 := hide (OP0.out.trans (.below (Nat.le_of_lt (blk_lt H0.out.d)) hB1))
    have KI1 := hide (blk_below KI.out hB1 (blk_lt KI.out))
    have i0 := blk_cell (j := 0) KI1.out rfl
    have i1 := blk_cell (j := 1) KI1.out rfl
    have OK := hide hOK
    have S1 := hide hS
    have Z1 : Hid (W0.heap.size ≤ g ∧ W0.heap.size ≤ W1.heap.size) := ⟨hge, hB1.size⟩
    clear hB1 hS hge KI
    go_wp2_with fail
    refine (refStart_any s most depth W1 hs rm rd).mono ?_
    clear i0 i1
    rintro e W2 (⟨hOK', gs, rfl, hgs, hB2, hD⟩ | ⟨hF, rfl, hB2⟩ | ⟨hF, hM, rfl, hB2⟩)
    rotate_left
    · exact absurd hOK.1 hF
    · exact absurd hOK.2 hM
    have H2 := hide (H1.out.below hB2)
    have OP2 := hide (OP1.out.trans (.below (Nat.le_of_lt (blk_lt H1.out.d)) hB2))
    have GX : Hid (GOK N W2 ⟨g, gs, W0.heap.size, W1.heap.size, env0 (prgOf s) most depth, env0 (prgOf s) most depth, cfg0 (prgOf s)⟩) := ⟨S1.out.below hB2, hD, fun _ => rfl, Nat.zero_le _, Nat.zero_le _⟩
    have FX : Hid (∀ b, vnt.ownBlock = some b → ¬(W0.heap.size ≤ b ∧ b < g) ∧ ¬(W1.heap.size ≤ b ∧ b < gs)) := fun b hb => by
      have := (World.ownsRow.lt H0.out.tn b hb).2
      have := Z1.out
      omega
    have dl2 : gd < W2.heap.size := blk_lt H2.out.d
    have UP : Hid (gd ≤ g ∧ gd ≤ gs) := by
      have := blk_lt H0.out.d
      have := Z1.out
      exact ⟨by omega, by omega⟩
    have NX : Hid (∀ y ∈ zs, y.g ≠ g ∧ y.gs ≠ gs) := fun y hy => by
      have k := H0.out.q.gz y hy
      obtain ⟨xs, b1⟩ := k.c.blk
      obtain ⟨ys, b2⟩ := k.d.blk
      have := blk_lt b1
      have := blk_lt b2
      have := Z1.out
      omega
    have wl := blk_lt H2.out.q.w
    have ne1 : gw ≠ W2.heap.size := by omega
    have ne2 : W2.heap.size ≠ gw := by omega
    have c1 := blk_cell (j := 1) H2.out.q.w rfl
    clear hB2 hD hOK hOK' hgs S1 H1 KI1 H0
    go_wp2_with fail
    refine (num_any 0 _).mono ?_
    rintro e w5 ⟨rfl, rfl⟩
    go_wp2_with (at_builtin; refine wpList_append_own _ rfl (.tmp 57) (.tmp 61) 35 rfl gd 70 ig (.agg #[.pointer none, .pointer none]) 2 16 Tryz.underlying35 hig hg0 hg1 hg2 rfl (by decide) vsc zs.length (gauC zs) rfl (World.ownsRow.alloc H2.out.q.sc _) ⟨w5.heap.size, 0, none⟩ 1 1 [.pointer (some ⟨g, 0, none⟩), .pointer (some ⟨gs, 0, none⟩)] rfl rfl (cell_list3 rfl) (by intro u hu; simp at hu; rcases hu with rfl | rfl <;> rfl) (by unfold maxLen; omega) (by omega) (by simp; omega) ?_; intro v2 wa hown2 hgrow2 _; obtain ⟨aq, cq, rfl, h5, h6⟩ := own_form hown2; have H3 := (H2.out.below ((Below.refl _ _).alloc (Nat.le_refl _) (.cells #[.pointer (some ⟨g, 0, none⟩), .pointer (some ⟨gs, 0, none⟩)] 70))); have b1 := far_blk H3.q.sc H3.q.w (by decide) hgrow2; have c1' := blk_cell (j := 1) b1 rfl; have z1 := blk_frozen b1 1)
    go_ret
    have GX3 : GOK N _ ⟨g, gs, W0.heap.size, W1.heap.size, env0 (prgOf s) most depth, env0 (prgOf s) most depth, cfg0 (prgOf s)⟩ := ⟨GX.out.c.below ((Below.refl _ _).alloc (Nat.le_refl _) (.cells #[.pointer (some ⟨g, 0, none⟩), .pointer (some ⟨gs, 0, none⟩)] 70)), GX.out.d.below ((Below.refl _ _).alloc (Nat.le_refl _) _), fun _ => rfl, Nat.zero_le _, Nat.zero_le _⟩
    exact ⟨rfl, ((OP2.out.trans (.alloc (Nat.le_of_lt (blk_lt H2.out.d)) _)).trans (.row (Nat.le_of_lt (blk_lt H3.d)) H3.q.sc (by decide) hgrow2)).trans (.cell H3.up.1 b1 (by decide) _ _), .inr ⟨OK.out, _, _, H3.gauge GX3 UP.out hgrow2 hown2 FX.out NX.out⟩⟩
  · have H1 := hide (H0.out.below hB1)
    have OP1 := hide (OP0.out.trans (.below (Nat.le_of_lt (blk_lt H0.out.d)) hB1))
    have KI1 := hide (blk_below KI.out hB1 (blk_lt KI.out))
    have i0 := blk_cell (j := 0) KI1.out rfl
    have i1 := blk_cell (j := 1) KI1.out rfl
    have NO : Hid (¬StartOK s most depth) := fun k => hF k.1
    clear hB1 H0 KI
    go_wp2_with fail
    refine (refStart_any s most depth W1 hs rm rd).mono ?_
    clear i0 i1
    rintro e W2 (⟨hOK', gs, rfl, hgs, hB2, hD⟩ | ⟨hF', rfl, hB2⟩ | ⟨hF', hM, rfl, hB2⟩)
    · exact absurd hOK'.1 hF
    rotate_left
    · exact absurd hF' hF
    have H2 := hide (H1.out.below hB2)
    have OP2 := hide (OP1.out.trans (.below (Nat.le_of_lt (blk_lt H1.out.d)) hB2))
    clear hB2 H1 KI1
    go_wp2_with fail
    refine (num_any 2 _).mono ?_
    rintro e w5 ⟨rfl, rfl⟩
    go_wp2
    go_ret
    exact ⟨rfl, OP2.out, .inl ⟨NO.out, H2.out⟩⟩
  · have H1 := hide (H0.out.below hB1)
    have OP1 := hide (OP0.out.trans (.below (Nat.le_of_lt (blk_lt H0.out.d)) hB1))
    have KI1 := hide (blk_below KI.out hB1 (blk_lt KI.out))
    have i0 := blk_cell (j := 0) KI1.out rfl
    have i1 := blk_cell (j := 1) KI1.out rfl
    have NO : Hid (¬StartOK s most depth) := fun k => hM k.2
    clear hB1 H0 KI
    go_wp2_with fail
    refine (refStart_any s most depth W1 hs rm rd).mono ?_
    clear i0 i1
    rintro e W2 (⟨hOK', gs, rfl, hgs, hB2, hD⟩ | ⟨hF', rfl, hB2⟩ | ⟨hF', hM', rfl, hB2⟩)
    · exact absurd hOK'.2 hM
    · exact absurd hF hF'
    have H2 := hide (H1.out.below hB2)
    have OP2 := hide (OP1.out.trans (.below (Nat.le_of_lt (blk_lt H1.out.d)) hB2))
    clear hB2 H1 KI1
    go_wp2_with fail
    refine (num_any 3 _).mono ?_
    rintro e w5 ⟨rfl, rfl⟩
    go_wp2
    go_ret
    exact ⟨rfl, OP2.out, .inl ⟨NO.out, H2.out⟩⟩

end Go.Proofs.YtmccnmgaoppogaaGreat

/-
  The walks: the drawer's looks. (weirlaw)
  The walks: pick; an image more. (weirlaw)
  The walks: step. (weirlaw)
-/
import Derived.Test.YtmccnmgaoppogaaGreatDC
namespace Go.Proofs.YtmccnmgaoppogaaGreat
open Go.RowKit

set_option maxRecDepth 100000 in
set_option maxHeartbeats 4000000 in
theorem looks_any (N gw gd : Nat) (ims : List ByteArray) (zs : List Gz) (ts : List Tl) (n : Int) (vim vsc vts vnt : Value) (w : World) (h : WI N gw gd ims zs ts n vim vsc vts vnt w) (hc : ∀ x ∈ ts, x.cap ≤ 9223372036854775807) (hts : ts.length ≤ 1099511627776) :
    Calls Tryz.prog 10 #[.pointer (some ⟨gd, 0, none⟩)] w (RetV (.bool true) w) := by
  obtain ⟨at1, c1, rfl, t1, t2⟩ := own_form h.tl
  obtain ⟨at2, c2, rfl, t3, t4⟩ := own_form h.tn
  have H := hide h
  have HC := hide hc
  have hgd := blk_lt h.d
  clear h hc
  go_enter Tryz.func10, Tryz.ntmps10
  go_wp2_with fail
  go_loopg [3] 0 (fun gk kv wr => kv = .int .i64 0 ∧ gk = 0 ∧ Below w.heap.size w wr)
  case atStart => exact ⟨rfl, rfl, Below.refl _ _⟩
  case round =>
    obtain ⟨rfl, rfl, hb0⟩ := hrel
    have B0 := hide hb0
    have d1 := blk_cell (j := 1) (blk_below H.out.d hb0 hgd) rfl
    clear hb0
    go_wp2_with fail
    clear d1
    go_loopg [9] ts.length (fun gk kv wx => ∃ k : Nat, k ≤ ts.length ∧ kv = .int .i64 k ∧ gk = ts.length - k ∧ Below w.heap.size w wx)
    case atStart => exact ⟨0, Nat.zero_le _, rfl, rfl, B0.out⟩
    case round =>
      clear B0
      obtain ⟨k, hk, rfl, rfl, hb⟩ := hrel
      have HB := hide hb
      have D1 := hide (blk_below H.out.d hb hgd)
      have d4 := blk_cell (j := 4) D1.out rfl
      by_cases hlt : k < ts.length
      · have hki : (k : Int) < (ts.length : Int) := by omega
        obtain ⟨gt, ct, hv, -, -⟩ := own_some H.out.tl (by omega)
        cases hv
        obtain ⟨gn, cn, hv, -, -⟩ := own_some H.out.tn (by omega)
        cases hv
        obtain ⟨x, hx⟩ : ∃ x, ts[k]? = some x := ⟨_, List.getElem?_eq_getElem hlt⟩
        have PX := hide (H.out.q.parts x (List.mem_of_getElem? hx)).1
        have qt := own_cell (j := k) H.out.tl (u := .slice x.ao x.cap x.cap) (by rw [List.getElem?_map, hx]; rfl)
        have qn := own_cell (j := k) H.out.tn (u := .int .i64 x.m) (by rw [intCells, List.getElem?_map, List.getElem?_map, hx]; rfl)
        have lt1 := (own_base H.out.tl).2
        have lt2 := (own_base H.out.tn).2
        have QT := hide qt
        have QN := hide qn
        have xc := HC.out x (List.mem_of_getElem? hx)
        clear hx qt qn hb
        obtain ⟨ao, cap, m⟩ := x
        simp only at PX QT QN xc
        go_wp2_with fail
        clear d4
        go_loopg [10] cap (fun gk iv wy => ∃ i : Nat, i ≤ cap ∧ iv = .int .i64 i ∧ gk = cap - i ∧ Below w.heap.size w wy)
        case atStart => exact ⟨0, Nat.zero_le _, rfl, rfl, HB.out⟩
        case round =>
          clear HB D1
          obtain ⟨i, hi, rfl, rfl, hb⟩ := hrel
          have HB := hide hb
          have d4 := blk_cell (j := 4) (blk_below H.out.d hb hgd) rfl
          have d8 := blk_cell (j := 8) (blk_below H.out.d hb hgd) rfl
          have qt := (hb.cell (p := ⟨gt, k, none⟩) lt1).trans QT.out
          have qn := (hb.cell (p := ⟨gn, k, none⟩) lt2).trans QN.out
          have sz := hb.size
          by_cases hil : i < cap
          · have hii : (i : Int) < (cap : Int) := by omega
            obtain ⟨g, old, rfl, hbk, hol⟩ : ∃ g old, ao = some ⟨g, 0, none⟩ ∧ Blk w g 74 (List.replicate (cap * 5) (.int .i64 m) ++ old) ∧ cap * 5 + old.length = cap * 5 := by
              rcases PX.out with ⟨_, h2⟩ | h2
              · omega
              · exact h2
            have gl := blk_lt hbk
            have cl : ∀ j, j < 5 → wr.cell? ⟨g, i * 5 + j, none⟩ = some (.int .i64 m) := fun j hj =>
              (hb.cell (p := ⟨g, i * 5 + j, none⟩) gl).trans (blk_cell hbk (by rw [List.getElem?_append_left (by simp; omega), List.getElem?_replicate_of_lt (by omega)]))
            have e0 := cl 0 (by omega)
            have e1 := cl 1 (by omega)
            have e2 := cl 2 (by omega)
            have e3 := cl 3 (by omega)
            have e4 := cl 4 (by omega)
            rw [Nat.add_zero] at e0
            have ne1 : gd ≠ wr.heap.size := by omega
            have ne2 : gt ≠ wr.heap.size := by omega
            have ne3 : gn ≠ wr.heap.size := by omega
            have ne4 : g ≠ wr.heap.size := by omega
            have ne1' : wr.heap.size ≠ gd := by omega
            have ne2' : wr.heap.size ≠ gt := by omega
            have ne3' : wr.heap.size ≠ gn := by omega
            have ne4' : wr.heap.size ≠ g := by omega
            clear cl hbk hol hb PX
            go_wp2_with fail
            have hbx := HB.out.alloc sz (.cells #[.int .i64 m, .int .i64 m, .int .i64 m, .int .i64 m, .int .i64 m] 74)
            have KX : Blk (wr.alloc (.cells #[.int .i64 m, .int .i64 m, .int .i64 m, .int .i64 m, .int .i64 m] 74)) wr.heap.size 74 [.int .i64 m, .int .i64 m, .int .i64 m, .int .i64 m, .int .i64 m] := heap_alloc_new _ _
            have d8' := blk_cell (j := 8) (blk_below H.out.d hbx hgd) rfl
            have qn' := (hbx.cell (p := ⟨gn, k, none⟩) lt2).trans QN.out
            have x0 := blk_cell (j := 0) KX rfl
            have x1 := blk_cell (j := 1) KX rfl
            have x2 := blk_cell (j := 2) KX rfl
            have x3 := blk_cell (j := 3) KX rfl
            have x4 := blk_cell (j := 4) KX rfl
            have HB1 := hide hbx
            clear d4 d8 qt qn e0 e1 e2 e3 e4 hbx KX HB ne1 ne2 ne3 ne4 ne1' ne2' ne3' ne4' sz
            generalize wr.alloc (.cells #[.int .i64 m, .int .i64 m, .int .i64 m, .int .i64 m, .int .i64 m] 74) = W1 at *
            generalize wr.heap.size = gx at *
            go_quiet (fail)
            go_wp2
            go_roundg (cap - (i + 1))
            case measure => omega
            case rel => exact ⟨i + 1, by omega, by go_num, rfl, below_drewN HB1.out _⟩
          · have hin : i = cap := by omega
            subst hin
            have dd : decide ((i : Int) < (i : Int)) = false := decide_eq_false (by omega)
            clear hb
            go_wp2
            go_roundg (ts.length - (k + 1))
            case measure => omega
            case rel => exact ⟨k + 1, by omega, by go_num, rfl, HB.out⟩
      · have dd : decide ((k : Int) < (ts.length : Int)) = false := decide_eq_false (by omega)
        clear hb
        go_wp2
        go_ret
        exact ⟨rfl, HB.out⟩

end Go.Proofs.YtmccnmgaoppogaaGreat

namespace Go.Proofs.YtmccnmgaoppogaaGreat
open Go.RowKit

/-- which of n things a raw number speaks of -/
def pkL (c n : Int) : Int := if c < 0 then (-(c + 1)) % n else c % n
theorem pkL_bd (c : Int) {n : Nat} (h : 0 < n) : 0 ≤ pkL c n ∧ pkL c n < n := by
  unfold pkL
  split
  · exact ⟨Int.emod_nonneg _ (by omega), Int.emod_lt_of_pos _ (by omega)⟩
  · exact ⟨Int.emod_nonneg _ (by omega), Int.emod_lt_of_pos _ (by omega)⟩

set_option maxHeartbeats 1000000 in
theorem pickL (c n : Int) (w : World) (hc : Rng c) (hn : 0 < n) (hn2 : n ≤ 1099511627776) :
    Calls Tryz.prog 17 #[.int .i64 c, .int .i64 n] w (RetSame (.int .i64 (pkL c n)) w) := by
  have hc0 := hc.1
  have hc1 := hc.2
  by_cases h : c < 0
  · have hp : pkL c n = -(c + 1).tmod n := by
      unfold pkL
      rw [if_pos h, ← Int.neg_tmod, Int.tmod_eq_emod_of_nonneg (by omega)]
    rw [hp]
    have hd : decide (c < 0) = true := by simpa using h
    go_enter Tryz.func17, Tryz.ntmps17
    go_wp2
    go_ret
    exact ⟨rfl, rfl⟩
  · have hp : pkL c n = c % n := by unfold pkL; rw [if_neg h]
    rw [hp]
    have hd : decide (c < 0) = false := by simpa using h
    go_enter Tryz.func17, Tryz.ntmps17
    go_wp2
    go_ret
    exact ⟨rfl, rfl⟩

theorem picC_snoc (l : List ByteArray) (s : ByteArray) : picC (l ++ [s]) = picC l ++ [.string s, .pointer none] := by simp [picC]

section
variable {N gw gd : Nat} {ims : List ByteArray} {zs : List Gz} {ts : List Tl} {n : Int} {vim vsc vts vnt : Value} {W W' : World}

/-- an image more -/
theorem WI.image (h : WI N gw gd ims zs ts n vim vsc vts vnt W) {s : ByteArray} {v2 : Value} (hg : W.grownBy W' vim.ownBlock) (ho : W'.ownsRow gd 57 2 v2 (ims.length + 1) (picC ims ++ [.string s, .pointer none])) :
    WI N gw gd (ims ++ [s]) zs ts n v2 vsc vts vnt (W'.setCell ⟨gw, 0, none⟩ v2) := by
  have w1 := far_blk h.q.im h.q.w (by decide) hg
  have hs := Lib.grownBy_setCell W' gw 0 v2
  have kp : ∀ (y : Gz), GOK N W y → GOK N (W'.setCell ⟨gw, 0, none⟩ v2) y := by
    intro y k
    obtain ⟨xs, b1⟩ := k.c.blk
    obtain ⟨ys, b2⟩ := k.d.blk
    have sf : ∀ (L g : Nat) (t : TypeId) (us : List Value), Blk W g t us → t ≠ 57 → Safe W L g vim.ownBlock := by
      intro L g t us hb ht
      refine ⟨fun e => ?_, fun b e cs t' fr hc => ?_⟩
      · rcases h.q.im.2 with ⟨e1, _⟩ | ⟨g', cap, cur, e1, _, h4, _⟩
        · rw [e1] at e; cases e
        · rw [e1] at e
          cases e
          unfold Blk at hb
          rw [hb] at h4
          cases h4
          exact ht rfl
      · rcases h.q.im.2 with ⟨e1, _⟩ | ⟨g', cap, cur, e1, _, h4, _⟩
        · rw [e1] at e; cases e
        · rw [e1] at e
          cases e
          rw [h4] at hc
          cases hc
          exact ⟨by decide, by decide, by decide, fun e => absurd e (by decide)⟩
    have sf2 : ∀ (L g : Nat) (t : TypeId) (us : List Value), Blk W' g t us → t ≠ 37 → Safe W' L g (some gw) := by
      intro L g t us hb ht
      refine ⟨fun e => blk_ne' hb w1 ht (Option.some.inj e), fun b e cs t' fr hc => ?_⟩
      cases e
      unfold Blk at w1
      rw [w1] at hc
      cases hc
      exact ⟨by decide, by decide, by decide, fun e => absurd e (by decide)⟩
    have c1 := k.c.keep (sf _ _ _ _ b1 (by decide)) hg
    have d1 := k.d.keep (sf _ _ _ _ b2 (by decide)) hg
    obtain ⟨xs', b1'⟩ := c1.blk
    obtain ⟨ys', b2'⟩ := d1.blk
    exact ⟨c1.keep (sf2 _ _ _ _ b1' (by decide)) hs, d1.keep (sf2 _ _ _ _ b2' (by decide)) hs, k.same, k.n1, k.n2⟩
  have d1 := far_blk h.q.im h.d (by decide) hg
  have sz : (W'.setCell ⟨gw, 0, none⟩ v2).heap.size = W'.heap.size := by simp [World.setCell]
  refine ⟨⟨blk_set w1 0 v2, ?_, own_apart (own_other h.q.sc h.q.im (by decide) hg) w1 (by decide) hs, fun z hz => ⟨?_, fun g e => ?_⟩, fun z hz => kp z (h.q.gz z hz), Nat.le_refl _⟩, blk_other d1 (blk_ne' d1 w1 (by decide)) _ _, own_apart (own_other h.tl h.q.im (by decide) hg) w1 (by decide) hs, own_apart (own_other h.tn h.q.im (by decide) hg) w1 (by decide) hs, h.far, h.ap, h.up⟩
  · rw [picC_snoc, List.length_append, List.length_singleton]
    exact own_apart ho w1 (by decide) hs
  · refine (h.q.parts z hz).1.keep (fun g xs _ hb => ?_)
    have b1 := far_blk h.q.im hb (by decide) hg
    exact blk_other b1 (blk_ne' b1 w1 (by decide)) _ _
  · have := (h.q.parts z hz).2 g e
    have := hg.size
    rw [sz]
    omega
end

end Go.Proofs.YtmccnmgaoppogaaGreat

namespace Go.Proofs.YtmccnmgaoppogaaGreat
open Go.RowKit

theorem Tryz.infp57 : (Tryz.prog.info? 57).map (fun i => (i.zero, i.size, i.bytes)) = some (some (.agg #[.string ⟨#[]⟩, .pointer none]), 2, 24) := by kernel_rfl

theorem gauC_get {zs : List Gz} {k : Nat} {x : Gz} (h : zs[k]? = some x) : (gauC zs)[k * 2]? = some (.pointer (some ⟨x.g, 0, none⟩)) ∧ (gauC zs)[k * 2 + 1]? = some (.pointer (some ⟨x.gs, 0, none⟩)) := by
  induction zs generalizing k with
  | nil => simp at h
  | cons z r ih =>
    cases k with
    | zero =>
      simp at h
      subst h
      simp [gauC]
    | succ k =>
      have := ih (k := k) (by simpa using h)
      have e : gauC (z :: r) = [.pointer (some ⟨z.g, 0, none⟩), .pointer (some ⟨z.gs, 0, none⟩)] ++ gauC r := rfl
      rw [e, List.getElem?_append_right (by simp; omega), List.getElem?_append_right (by simp; omega), show (k + 1) * 2 - [Value.pointer (some ⟨z.g, 0, none⟩), Value.pointer (some ⟨z.gs, 0, none⟩)].length = k * 2 by simp; omega, show (k + 1) * 2 + 1 - [Value.pointer (some ⟨z.g, 0, none⟩), Value.pointer (some ⟨z.gs, 0, none⟩)].length = k * 2 + 1 by simp; omega]
      exact this

theorem picC_get {l : List ByteArray} {k : Nat} {t : ByteArray} (h : l[k]? = some t) : (picC l)[k * 2]? = some (.string t) ∧ (picC l)[k * 2 + 1]? = some (.pointer none) := by
  induction l generalizing k with
  | nil => simp at h
  | cons z r ih =>
    cases k with
    | zero =>
      simp at h
      subst h
      simp [picC]
    | succ k =>
      have := ih (k := k) (by simpa using h)
      have e : picC (z :: r) = [.string z, .pointer none] ++ picC r := rfl
      rw [e, List.getElem?_append_right (by simp; omega), List.getElem?_append_right (by simp; omega), show (k + 1) * 2 - [Value.string z, Value.pointer none].length = k * 2 by simp; omega, show (k + 1) * 2 + 1 - [Value.string z, Value.pointer none].length = k * 2 + 1 by simp; omega]
      exact this

/-- what a step leaves -/
def RetSt (N gw gd li lz lt : Nat) (ts : List Tl) (n : Int) (is : List ByteArray) (s : ByteArray) (w : World) (e : Ending) (w' : World) : Prop :=
  e = .returned (.bool true) ∧ Below gd w w' ∧ ∃ ims zs ts' n' vim vsc vts vnt, WI N gw gd ims zs ts' n' vim vsc vts vnt w' ∧ ims.length ≤ li + 1 ∧ zs.length ≤ lz + 1 ∧ ts'.length ≤ lt + 1 ∧ (0 ≤ n' ∧ n' ≤ n + 1) ∧ (∀ x ∈ ts', x ∈ ts ∨ x.cap ≤ 9223372036854775807) ∧ ∀ t ∈ ims, t ∈ is ∨ t = s

set_option maxRecDepth 100000 in
set_option maxHeartbeats 4000000 in
theorem step_any (N gw gd : Nat) (ims : List ByteArray) (zs : List Gz) (ts : List Tl) (n : Int) (vim vsc vts vnt : Value) (kind on a b : Int) (s : ByteArray) (ae ar ac : Option Addr) (ne ce nr cr nc cc : Nat) (w : World) (h : WI N gw gd ims zs ts n vim vsc vts vnt w) (hN : N + s.size ≤ 1099511627776) (hn : 0 ≤ n ∧ n ≤ 1099511627776) (hts : ts.length ≤ 1099511627776) (hzs : zs.length ≤ 1099511627776) (him : ims.length ≤ 1099511627776) (hss : ∀ t ∈ ims, t.size ≤ 9223372036854775807)
    (ra : Rng a) (rb : Rng b) (ro : Rng on) (hk : kind = 1 ∨ kind = 2 ∨ kind = 3 ∨ kind = 4 ∨ kind = 9) :
    Calls Tryz.prog 9 #[.pointer (some ⟨gw, 0, none⟩), .agg #[.int .i64 kind, .int .i64 on, .int .i64 a, .int .i64 b, .string s, .slice ae ne ce, .slice ar nr cr, .slice ac nc cc]] w (RetSt (N + s.size) gw gd ims.length zs.length ts.length ts n ims s w) := by
  obtain ⟨ai, ci, rfl, i1, i2⟩ := own_form h.q.im
  obtain ⟨az, cz, rfl, s1, s2⟩ := own_form h.q.sc
  have H0 := hide (h.below ((Below.refl _ _).alloc (Nat.le_refl _) (.cells #[.int .i64 kind, .int .i64 on, .int .i64 a, .int .i64 b, .string s, .slice ae ne ce, .slice ar nr cr, .slice ac nc cc] 45)))
  have KO : Hid (Blk (w.alloc (.cells #[.int .i64 kind, .int .i64 on, .int .i64 a, .int .i64 b, .string s, .slice ae ne ce, .slice ar nr cr, .slice ac nc cc] 45)) w.heap.size 45 [.int .i64 kind, .int .i64 on, .int .i64 a, .int .i64 b, .string s, .slice ae ne ce, .slice ar nr cr, .slice ac nc cc]) := heap_alloc_new w _
  have wl := blk_lt h.q.w
  have c0 := blk_cell (j := 0) h.q.w rfl
  have ne1 : gw ≠ w.heap.size := by omega
  have ne2 : w.heap.size ≠ gw := by omega
  have LO : Hid (Below gd w (w.alloc (.cells #[.int .i64 kind, .int .i64 on, .int .i64 a, .int .i64 b, .string s, .slice ae ne ce, .slice ar nr cr, .slice ac nc cc] 45))) := (Below.refl _ _).alloc (Nat.le_of_lt (blk_lt h.d)) _
  clear h
  go_enter Tryz.func9, Tryz.ntmps9
  go_upto_region 2 with (fail)
  clear c0 ne1 ne2 wl
  generalize w.alloc (.cells #[.int .i64 kind, .int .i64 on, .int .i64 a, .int .i64 b, .string s, .slice ae ne ce, .slice ar nr cr, .slice ac nc cc] 45) = W0 at *
  generalize w.heap.size = ga at *
  have o0 := blk_cell (j := 0) KO.out rfl
  have o1 := blk_cell (j := 1) KO.out rfl
  have o2 := blk_cell (j := 2) KO.out rfl
  have o3 := blk_cell (j := 3) KO.out rfl
  have o4 := blk_cell (j := 4) KO.out rfl
  have c0 := blk_cell (j := 0) H0.out.q.w rfl
  have c1 := blk_cell (j := 1) H0.out.q.w rfl
  have SAME : Hid (∀ W, Below gd W0 W → WI (N + s.size) gw gd ims zs ts n (.slice ai ims.length ci) (.slice az zs.length cz) vts vnt W → RetSt (N + s.size) gw gd ims.length zs.length ts.length ts n ims s w (.returned (.bool true)) W) := fun W hb hW => ⟨rfl, LO.out.trans hb, _, _, _, _, _, _, _, _, hW, by omega, by omega, by omega, ⟨hn.1, by omega⟩, fun x hx => .inl hx, fun t ht => .inl ht⟩
  have GROW : Hid (∀ W, WI N gw gd ims zs ts n (.slice ai ims.length ci) (.slice az zs.length cz) vts vnt W → WI (N + s.size) gw gd ims zs ts n (.slice ai ims.length ci) (.slice az zs.length cz) vts vnt W) := fun W hW =>
    ⟨⟨hW.q.w, hW.q.im, hW.q.sc, hW.q.parts, fun x hx => ⟨(hW.q.gz x hx).c, (hW.q.gz x hx).d, (hW.q.gz x hx).same, Nat.le_trans (hW.q.gz x hx).n1 (by omega), Nat.le_trans (hW.q.gz x hx).n2 (by omega)⟩, hW.q.sz⟩, hW.d, hW.tl, hW.tn, hW.far, hW.ap, hW.up⟩
  have GRW : Hid (∀ (W : World) (zs' : List Gz) (v2 : Value), WI N gw gd ims zs' ts n (.slice ai ims.length ci) v2 vts vnt W → WI (N + s.size) gw gd ims zs' ts n (.slice ai ims.length ci) v2 vts vnt W) := fun W zs' v2 hW =>
    ⟨⟨hW.q.w, hW.q.im, hW.q.sc, hW.q.parts, fun x hx => ⟨(hW.q.gz x hx).c, (hW.q.gz x hx).d, (hW.q.gz x hx).same, Nat.le_trans (hW.q.gz x hx).n1 (by omega), Nat.le_trans (hW.q.gz x hx).n2 (by omega)⟩, hW.q.sz⟩, hW.d, hW.tl, hW.tn, hW.far, hW.ap, hW.up⟩
  by_cases k9 : kind = 9
  · subst k9
    by_cases hz : 0 < zs.length
    · have hz1 : decide ((0 : Int) < (zs.length : Int)) = true := decide_eq_true (by omega)
      obtain ⟨k, hk, hkl⟩ : ∃ k : Nat, pkL on zs.length = (k : Int) ∧ k < zs.length := by
        have := pkL_bd on hz
        exact ⟨(pkL on zs.length).toNat, by omega, by omega⟩
      obtain ⟨x, hx⟩ : ∃ x, zs[k]? = some x := ⟨_, List.getElem?_eq_getElem hkl⟩
      obtain ⟨gz, cz', e, -, -⟩ := own_some H0.out.q.sc hz
      cases e
      have PICK : Hid (∀ W, Calls Tryz.prog 17 #[.int .i64 on, .int .i64 zs.length] W (RetSame (.int .i64 (k : Int)) W)) := fun W => by
        have := pickL on zs.length W ro (by omega) (by omega)
        rwa [hk] at this
      have b0 := Below.drew (Below.refl W0.heap.size W0)
      have k0 := (H0.out.below b0).q.gz x (List.mem_of_getElem? hx)
      have ST := hide (gauge_state x.g x.gs _ _ x.E x.E' x.C W0.drew k0.c k0.d (fun h => by rw [k0.same h]))
      have S1 : W0.drew.cell? ⟨gw, 1, none⟩ = some (.slice (some ⟨gz, 0, none⟩) zs.length cz) ∧ W0.drew.cell? ⟨ga, 1, none⟩ = some (.int .i64 on) ∧ W0.drew.cell? ⟨gz, k * 2, none⟩ = some (.pointer (some ⟨x.g, 0, none⟩)) ∧ W0.drew.cell? ⟨gz, k * 2 + 1, none⟩ = some (.pointer (some ⟨x.gs, 0, none⟩)) := ⟨c1, o1, own_cell H0.out.q.sc (gauC_get hx).1, own_cell H0.out.q.sc (gauC_get hx).2⟩
      have ik1 : (0 : Int) ≤ (k : Int) := by omega
      have ik2 : (k : Int) < (zs.length : Int) := by omega
      have KEEP : Hid (∀ w', Below W0.drew.heap.size W0.drew w' → w'.cell? ⟨gw, 1, none⟩ = some (.slice (some ⟨gz, 0, none⟩) zs.length cz) ∧ w'.cell? ⟨ga, 1, none⟩ = some (.int .i64 on) ∧ w'.cell? ⟨gz, k * 2, none⟩ = some (.pointer (some ⟨x.g, 0, none⟩)) ∧ w'.cell? ⟨gz, k * 2 + 1, none⟩ = some (.pointer (some ⟨x.gs, 0, none⟩))) := fun w' hb =>
        ⟨(hb.cell (p := ⟨gw, 1, none⟩) (blk_lt H0.out.q.w)).trans S1.1, (hb.cell (p := ⟨ga, 1, none⟩) (blk_lt KO.out)).trans S1.2.1, (hb.cell (p := ⟨gz, k * 2, none⟩) (own_base H0.out.q.sc).2).trans S1.2.2.1, (hb.cell (p := ⟨gz, k * 2 + 1, none⟩) (own_base H0.out.q.sc).2).trans S1.2.2.2⟩
      clear k0 b0 hx hk
      go_wp2_with fail
      clear c0 c1 o0 o1 o2 o3 o4
      go_region_held3 (fun w' => w'.cell? ⟨gw, 1, none⟩ = some (.slice (some ⟨gz, 0, none⟩) zs.length cz) ∧ w'.cell? ⟨ga, 1, none⟩ = some (.int .i64 on) ∧ w'.cell? ⟨gz, k * 2, none⟩ = some (.pointer (some ⟨x.g, 0, none⟩)) ∧ w'.cell? ⟨gz, k * 2 + 1, none⟩ = some (.pointer (some ⟨x.gs, 0, none⟩))) (first | assumption | exact KEEP.out _ hb) (first | (go_at_call 17; refine (PICK.out _).mono ?_; rintro e w' ⟨rfl, rfl⟩) | (go_at_call 22; refine ST.out.mono ?_; rintro e w' ⟨rfl, hb⟩))
      have W1 := hide ((H0.out.below (Below.drew (Below.refl W0.heap.size W0))).below hb)
      have LB : Hid (Below gd W0 w') := (Below.refl gd W0).drew.trans (hb.mono (Nat.le_of_lt (blk_lt H0.out.d)))
      go_wp2
      go_ret
      exact SAME.out _ LB.out (GROW.out _ W1.out)
    · have hz0 : decide ((0 : Int) < (zs.length : Int)) = false := decide_eq_false (by omega)
      go_wp2
      go_ret
      exact SAME.out _ (Below.refl _ _) (GROW.out _ H0.out)
  by_cases k34 : kind = 3 ∨ kind = 4
  · have q1 : (kind == 1) = false := by simp; omega
    have q2 : (kind == 2) = false := by simp; omega
    by_cases hz : 0 < zs.length
    · have hz1 : decide ((0 : Int) < (zs.length : Int)) = true := decide_eq_true (by omega)
      obtain ⟨k, hk, hkl⟩ : ∃ k : Nat, pkL on zs.length = (k : Int) ∧ k < zs.length := by
        have := pkL_bd on hz
        exact ⟨(pkL on zs.length).toNat, by omega, by omega⟩
      obtain ⟨x, hx⟩ : ∃ x, zs[k]? = some x := ⟨_, List.getElem?_eq_getElem hkl⟩
      obtain ⟨gz, cz', e, -, -⟩ := own_some H0.out.q.sc hz
      cases e
      have PICK : Hid (∀ W, Calls Tryz.prog 17 #[.int .i64 on, .int .i64 zs.length] W (RetSame (.int .i64 (k : Int)) W)) := fun W => by
        have := pickL on zs.length W ro (by omega) (by omega)
        rwa [hk] at this
      have FD := hide (fed_any N gw gd k ims zs ts n _ _ vts vnt x kind on a b s ae ar ac ne ce nr cr nc cc W0.drew (H0.out.below (Below.drew (Below.refl W0.heap.size W0))) hx hN hn hts)
      have o5 := blk_cell (j := 5) KO.out rfl
      have o6 := blk_cell (j := 6) KO.out rfl
      have o7 := blk_cell (j := 7) KO.out rfl
      have S1 : W0.drew.cell? ⟨gw, 1, none⟩ = some (.slice (some ⟨gz, 0, none⟩) zs.length cz) ∧ W0.drew.cell? ⟨ga, 0, none⟩ = some (.int .i64 kind) ∧ W0.drew.cell? ⟨ga, 1, none⟩ = some (.int .i64 on) ∧ W0.drew.cell? ⟨ga, 2, none⟩ = some (.int .i64 a) ∧ W0.drew.cell? ⟨ga, 3, none⟩ = some (.int .i64 b) ∧ W0.drew.cell? ⟨ga, 4, none⟩ = some (.string s) ∧ W0.drew.cell? ⟨ga, 5, none⟩ = some (.slice ae ne ce) ∧ W0.drew.cell? ⟨ga, 6, none⟩ = some (.slice ar nr cr) ∧ W0.drew.cell? ⟨ga, 7, none⟩ = some (.slice ac nc cc) ∧ W0.drew.cell? ⟨gz, k * 2, none⟩ = some (.pointer (some ⟨x.g, 0, none⟩)) ∧ W0.drew.cell? ⟨gz, k * 2 + 1, none⟩ = some (.pointer (some ⟨x.gs, 0, none⟩)) := ⟨c1, o0, o1, o2, o3, o4, o5, o6, o7, own_cell H0.out.q.sc (gauC_get hx).1, own_cell H0.out.q.sc (gauC_get hx).2⟩
      have ik1 : (0 : Int) ≤ (k : Int) := by omega
      have ik2 : (k : Int) < (zs.length : Int) := by omega
      have KEEP : Hid (∀ w' E2 E2' D ts' n' vts' vnt', Kept gd W0.drew w' → WI (N + s.size) gw gd ims (zs.set k { x with E := E2, E' := E2', C := D }) ts' n' (.slice ai ims.length ci) (.slice (some ⟨gz, 0, none⟩) zs.length cz) vts' vnt' w' → w'.cell? ⟨gw, 1, none⟩ = some (.slice (some ⟨gz, 0, none⟩) zs.length cz) ∧ w'.cell? ⟨ga, 0, none⟩ = some (.int .i64 kind) ∧ w'.cell? ⟨ga, 1, none⟩ = some (.int .i64 on) ∧ w'.cell? ⟨ga, 2, none⟩ = some (.int .i64 a) ∧ w'.cell? ⟨ga, 3, none⟩ = some (.int .i64 b) ∧ w'.cell? ⟨ga, 4, none⟩ = some (.string s) ∧ w'.cell? ⟨ga, 5, none⟩ = some (.slice ae ne ce) ∧ w'.cell? ⟨ga, 6, none⟩ = some (.slice ar nr cr) ∧ w'.cell? ⟨ga, 7, none⟩ = some (.slice ac nc cc) ∧ w'.cell? ⟨gz, k * 2, none⟩ = some (.pointer (some ⟨x.g, 0, none⟩)) ∧ w'.cell? ⟨gz, k * 2 + 1, none⟩ = some (.pointer (some ⟨x.gs, 0, none⟩))) := fun w' E2 E2' D ts' n' vts' vnt' hop hW => by
        have kb := hop.op ga _ KO.out
        have sc := hW.q.sc
        rw [gauC_set zs k x { x with E := E2, E' := E2', C := D } hx rfl rfl, List.length_set] at sc
        exact ⟨blk_cell (j := 1) hW.q.w rfl, blk_cell (j := 0) kb rfl, blk_cell (j := 1) kb rfl, blk_cell (j := 2) kb rfl, blk_cell (j := 3) kb rfl, blk_cell (j := 4) kb rfl, blk_cell (j := 5) kb rfl, blk_cell (j := 6) kb rfl, blk_cell (j := 7) kb rfl, own_cell sc (gauC_get hx).1, own_cell sc (gauC_get hx).2⟩
      clear hx hk
      have q34 : Hid ((kind == 3 || kind == 4) = true) := by show _ = _; simp; omega
      rcases k34 with k3 | k4
      · subst k3
        go_wp2_with fail
        clear c0 c1 o0 o1 o2 o3 o4 o5 o6 o7
        go_region_held3 (fun w' => w'.cell? ⟨gw, 1, none⟩ = some (.slice (some ⟨gz, 0, none⟩) zs.length cz) ∧ w'.cell? ⟨ga, 0, none⟩ = some (.int .i64 3) ∧ w'.cell? ⟨ga, 1, none⟩ = some (.int .i64 on) ∧ w'.cell? ⟨ga, 2, none⟩ = some (.int .i64 a) ∧ w'.cell? ⟨ga, 3, none⟩ = some (.int .i64 b) ∧ w'.cell? ⟨ga, 4, none⟩ = some (.string s) ∧ w'.cell? ⟨ga, 5, none⟩ = some (.slice ae ne ce) ∧ w'.cell? ⟨ga, 6, none⟩ = some (.slice ar nr cr) ∧ w'.cell? ⟨ga, 7, none⟩ = some (.slice ac nc cc) ∧ w'.cell? ⟨gz, k * 2, none⟩ = some (.pointer (some ⟨x.g, 0, none⟩)) ∧ w'.cell? ⟨gz, k * 2 + 1, none⟩ = some (.pointer (some ⟨x.gs, 0, none⟩))) (first | assumption | exact KEEP.out _ _ _ _ _ _ _ _ hop hWI) (first | (go_at_call 17; refine (PICK.out _).mono ?_; rintro e w' ⟨rfl, rfl⟩) | (go_at_call 18; refine FD.out.mono ?_; rintro e w' ⟨rfl, hop, E2, E2', D, t, vts', vnt', hcap, hWI⟩))
        have W1 := hide hWI
        have HC := hide hcap
        have LB : Hid (Below gd W0 w') := (Below.refl gd W0).drew.trans hop.lo
        clear hWI hop hcap KEEP FD
        go_wp2
        go_ret
        exact ⟨rfl, LO.out.trans LB.out, _, _, _, _, _, _, _, _, W1.out, by omega, by rw [List.length_set]; omega, by simp, ⟨by omega, by omega⟩, fun y hy => by
          rcases List.mem_append.1 hy with h | h
          · exact .inl h
          · simp at h
            subst h
            exact .inr HC.out, fun t ht => .inl ht⟩
      · subst k4
        go_wp2_with fail
        clear c0 c1 o0 o1 o2 o3 o4 o5 o6 o7
        go_region_held3 (fun w' => w'.cell? ⟨gw, 1, none⟩ = some (.slice (some ⟨gz, 0, none⟩) zs.length cz) ∧ w'.cell? ⟨ga, 0, none⟩ = some (.int .i64 4) ∧ w'.cell? ⟨ga, 1, none⟩ = some (.int .i64 on) ∧ w'.cell? ⟨ga, 2, none⟩ = some (.int .i64 a) ∧ w'.cell? ⟨ga, 3, none⟩ = some (.int .i64 b) ∧ w'.cell? ⟨ga, 4, none⟩ = some (.string s) ∧ w'.cell? ⟨ga, 5, none⟩ = some (.slice ae ne ce) ∧ w'.cell? ⟨ga, 6, none⟩ = some (.slice ar nr cr) ∧ w'.cell? ⟨ga, 7, none⟩ = some (.slice ac nc cc) ∧ w'.cell? ⟨gz, k * 2, none⟩ = some (.pointer (some ⟨x.g, 0, none⟩)) ∧ w'.cell? ⟨gz, k * 2 + 1, none⟩ = some (.pointer (some ⟨x.gs, 0, none⟩))) (first | assumption | exact KEEP.out _ _ _ _ _ _ _ _ hop hWI) (first | (go_at_call 17; refine (PICK.out _).mono ?_; rintro e w' ⟨rfl, rfl⟩) | (go_at_call 18; refine FD.out.mono ?_; rintro e w' ⟨rfl, hop, E2, E2', D, t, vts', vnt', hcap, hWI⟩))
        have W1 := hide hWI
        have HC := hide hcap
        have LB : Hid (Below gd W0 w') := (Below.refl gd W0).drew.trans hop.lo
        clear hWI hop hcap KEEP FD
        go_wp2
        go_ret
        exact ⟨rfl, LO.out.trans LB.out, _, _, _, _, _, _, _, _, W1.out, by omega, by rw [List.length_set]; omega, by simp, ⟨by omega, by omega⟩, fun y hy => by
          rcases List.mem_append.1 hy with h | h
          · exact .inl h
          · simp at h
            subst h
            exact .inr HC.out, fun t ht => .inl ht⟩
    · have hz0 : decide ((0 : Int) < (zs.length : Int)) = false := decide_eq_false (by omega)
      rcases k34 with k3 | k4
      · subst k3
        go_wp2
        go_ret
        exact SAME.out _ (Below.refl _ _) (GROW.out _ H0.out)
      · subst k4
        go_wp2
        go_ret
        exact SAME.out _ (Below.refl _ _) (GROW.out _ H0.out)
  by_cases k2 : kind = 2
  · subst k2
    by_cases hz : 0 < ims.length
    · have hz1 : decide ((0 : Int) < (ims.length : Int)) = true := decide_eq_true (by omega)
      obtain ⟨k, hk, hkl⟩ : ∃ k : Nat, pkL on ims.length = (k : Int) ∧ k < ims.length := by
        have := pkL_bd on hz
        exact ⟨(pkL on ims.length).toNat, by omega, by omega⟩
      obtain ⟨t, ht⟩ : ∃ t, ims[k]? = some t := ⟨_, List.getElem?_eq_getElem hkl⟩
      obtain ⟨gi, ci', e, -, -⟩ := own_some H0.out.q.im hz
      cases e
      have PICK : Hid (∀ W, Calls Tryz.prog 17 #[.int .i64 on, .int .i64 ims.length] W (RetSame (.int .i64 (k : Int)) W)) := fun W => by
        have := pickL on ims.length W ro (by omega) (by omega)
        rwa [hk] at this
      have BG := hide (begun_any N gw gd ims zs ts n _ _ vts vnt t a b W0.drew (H0.out.below (Below.drew (Below.refl W0.heap.size W0))) (hss t (List.mem_of_getElem? ht)) ra rb hzs)
      have S1 : W0.drew.cell? ⟨gw, 0, none⟩ = some (.slice (some ⟨gi, 0, none⟩) ims.length ci) ∧ W0.drew.cell? ⟨ga, 1, none⟩ = some (.int .i64 on) ∧ W0.drew.cell? ⟨ga, 2, none⟩ = some (.int .i64 a) ∧ W0.drew.cell? ⟨ga, 3, none⟩ = some (.int .i64 b) ∧ W0.drew.cell? ⟨gi, k * 2, none⟩ = some (.string t) ∧ W0.drew.cell? ⟨gi, k * 2 + 1, none⟩ = some (.pointer none) := ⟨c0, o1, o2, o3, own_cell H0.out.q.im (picC_get ht).1, own_cell H0.out.q.im (picC_get ht).2⟩
      have ik1 : (0 : Int) ≤ (k : Int) := by omega
      have ik2 : (k : Int) < (ims.length : Int) := by omega
      have KEEP : Hid (∀ w', Kept gd W0.drew w' → ((¬StartOK t a b ∧ WI N gw gd ims zs ts n (.slice (some ⟨gi, 0, none⟩) ims.length ci) (.slice az zs.length cz) vts vnt w') ∨ (StartOK t a b ∧ ∃ x v2, WI N gw gd ims (zs ++ [x]) ts n (.slice (some ⟨gi, 0, none⟩) ims.length ci) v2 vts vnt w')) → w'.cell? ⟨gw, 0, none⟩ = some (.slice (some ⟨gi, 0, none⟩) ims.length ci) ∧ w'.cell? ⟨ga, 1, none⟩ = some (.int .i64 on) ∧ w'.cell? ⟨ga, 2, none⟩ = some (.int .i64 a) ∧ w'.cell? ⟨ga, 3, none⟩ = some (.int .i64 b) ∧ w'.cell? ⟨gi, k * 2, none⟩ = some (.string t) ∧ w'.cell? ⟨gi, k * 2 + 1, none⟩ = some (.pointer none)) := fun w' hop hcs => by
        have kb := hop.op ga _ KO.out
        rcases hcs with ⟨_, hW⟩ | ⟨_, x, v2, hW⟩
        · exact ⟨blk_cell (j := 0) hW.q.w rfl, blk_cell (j := 1) kb rfl, blk_cell (j := 2) kb rfl, blk_cell (j := 3) kb rfl, own_cell hW.q.im (picC_get ht).1, own_cell hW.q.im (picC_get ht).2⟩
        · exact ⟨blk_cell (j := 0) hW.q.w rfl, blk_cell (j := 1) kb rfl, blk_cell (j := 2) kb rfl, blk_cell (j := 3) kb rfl, own_cell hW.q.im (picC_get ht).1, own_cell hW.q.im (picC_get ht).2⟩
      clear ht hk
      go_wp2_with fail
      clear c0 c1 o0 o1 o2 o3 o4
      go_region_held3 (fun w' => w'.cell? ⟨gw, 0, none⟩ = some (.slice (some ⟨gi, 0, none⟩) ims.length ci) ∧ w'.cell? ⟨ga, 1, none⟩ = some (.int .i64 on) ∧ w'.cell? ⟨ga, 2, none⟩ = some (.int .i64 a) ∧ w'.cell? ⟨ga, 3, none⟩ = some (.int .i64 b) ∧ w'.cell? ⟨gi, k * 2, none⟩ = some (.string t) ∧ w'.cell? ⟨gi, k * 2 + 1, none⟩ = some (.pointer none)) (first | assumption | exact KEEP.out _ hop hcs) (first | (go_at_call 17; refine (PICK.out _).mono ?_; rintro e w' ⟨rfl, rfl⟩) | (go_at_call 16; refine BG.out.mono ?_; rintro e w' ⟨rfl, hop, hcs⟩))
      have HCS := hide hcs
      have LB : Hid (Below gd W0 w') := (Below.refl gd W0).drew.trans hop.lo
      clear hcs hop KEEP BG
      go_wp2
      go_ret
      rcases HCS.out with ⟨_, hW⟩ | ⟨_, x, v2, hW⟩
      · exact SAME.out _ LB.out (GROW.out _ hW)
      · exact ⟨rfl, LO.out.trans LB.out, _, _, _, _, _, _, _, _, GRW.out _ _ _ hW, by omega, by simp, by omega, ⟨hn.1, by omega⟩, fun y hy => .inl hy, fun t ht => .inl ht⟩
    · have hz0 : decide ((0 : Int) < (ims.length : Int)) = false := decide_eq_false (by omega)
      go_wp2
      go_ret
      exact SAME.out _ (Below.refl _ _) (GROW.out _ H0.out)
  have k1 : kind = 1 := by omega
  subst k1
  obtain ⟨ip, hip, hp0, hp1, hp2⟩ := info_parts Tryz.infp57
  have GRI : Hid (∀ (W : World) (ims' : List ByteArray) (v2 : Value), WI N gw gd ims' zs ts n v2 (.slice az zs.length cz) vts vnt W → WI (N + s.size) gw gd ims' zs ts n v2 (.slice az zs.length cz) vts vnt W) := fun W ims' v2 hW =>
    ⟨⟨hW.q.w, hW.q.im, hW.q.sc, hW.q.parts, fun x hx => ⟨(hW.q.gz x hx).c, (hW.q.gz x hx).d, (hW.q.gz x hx).same, Nat.le_trans (hW.q.gz x hx).n1 (by omega), Nat.le_trans (hW.q.gz x hx).n2 (by omega)⟩, hW.q.sz⟩, hW.d, hW.tl, hW.tn, hW.far, hW.ap, hW.up⟩
  go_wp2_with fail
  have dl := blk_lt H0.out.d
  have wl := blk_lt H0.out.q.w
  have ol := blk_lt KO.out
  have ne1 : gw ≠ W0.heap.size := by omega
  have ne2 : W0.heap.size ≠ gw := by omega
  have S1 : W0.drew.cell? ⟨ga, 4, none⟩ = some (.string s) := o4
  have H2 := hide (H0.out.below (((Below.refl W0.heap.size W0).alloc (Nat.le_refl _) (.cells #[.string s, .pointer none] 57)).drew))
  have KO2 := hide (blk_below KO.out (((Below.refl W0.heap.size W0).alloc (Nat.le_refl _) (.cells #[.string s, .pointer none] 57)).drew) (blk_lt KO.out))
  have S2 : (W0.alloc (.cells #[.string s, .pointer none] 57)).drew.cell? ⟨ga, 4, none⟩ = some (.string s) := blk_cell (j := 4) KO2.out rfl
  refine wp_region_held_drew (S := fun w' => w'.cell? ⟨ga, 4, none⟩ = some (.string s)) (by kernel_rfl) S1 (fun hHeld => ?_)
  refine wpAnyH_take (i := 0) (v := ?va0) rfl (by kernel_rfl) (by kernel_rfl) (by kernel_rfl) (fun _ _ _ h => h) (Or.inl ⟨by rfl, ?hya0⟩) (by assumption) ?resta0
  case hya0 => (intro w hSw; (try dsimp only at hSw); go_simp; try (with_reducible rfl))
  try simp only [Act.put, List.setIfInBounds_toArray]
  refine wpAnyH_take (i := 1) (v := ?va1) rfl (by kernel_rfl) (by kernel_rfl) (by kernel_rfl) (fun _ _ _ h => h) (Or.inl ⟨by rfl, ?hya1⟩) (by assumption) ?resta1
  case hya1 => (intro w hSw; (try dsimp only at hSw); go_simp; try (with_reducible rfl))
  try simp only [Act.put]
  refine wpAnyH_take (i := 2) (v := ?va2) rfl (by kernel_rfl) (by kernel_rfl) (by kernel_rfl) (fun _ _ _ h => h) (Or.inl ⟨by rfl, ?hya2⟩) (by assumption) ?resta2
  case hya2 => (intro w hSw; (try dsimp only at hSw); go_simp; try (with_reducible rfl))
  try simp only [Act.put]
  refine wpAnyH_take (i := 3) (v := ?va3) rfl (by kernel_rfl) (by kernel_rfl) (by kernel_rfl) (fun _ _ _ h => h) (Or.inl ⟨by rfl, ?hya3⟩) (by assumption) ?resta3
  case hya3 => (intro w hSw; (try dsimp only at hSw); go_simp; try (with_reducible rfl))
  try simp only [Act.put]
  refine wpAnyH_take (i := 5) (v := ?va5) rfl (by kernel_rfl) (by kernel_rfl) (by kernel_rfl) (fun _ _ _ h => h) (Or.inl ⟨by rfl, ?hya5⟩) (by assumption) ?resta5
  case hya5 => (intro w hSw; (try dsimp only at hSw); go_simp; try (with_reducible rfl))
  try simp only [Act.put]
  refine wpAnyH_take (i := 6) (v := ?va6) rfl (by kernel_rfl) (by kernel_rfl) (by kernel_rfl) (fun _ _ _ h => h) (Or.inl ⟨by rfl, ?hya6⟩) (by assumption) ?resta6
  case hya6 => (intro w hSw; (try dsimp only at hSw); go_simp; try (with_reducible rfl))
  try simp only [Act.put]
  refine wpAnyH_take (i := 7) (v := ?va7) rfl (by kernel_rfl) (by kernel_rfl) (by kernel_rfl) (fun _ _ _ h => h) (Or.inl ⟨by rfl, ?hya7⟩) (by assumption) ?resta7
  case hya7 => (intro w hSw; (try dsimp only at hSw); go_simp; try (with_reducible rfl))
  try simp only [Act.put]
  refine wpAnyH_ready (rs := [4, 8]) (by kernel_rfl) (by simp) ?_
  refine AllReadyH.cons rfl (fun K hK => ?_) (AllReadyH.cons rfl (fun K hK => ?_) AllReadyH.nil)
  · go_simp
    refine hK.out _ _ hHeld (fun hHeld2 => ?_)
    clear hK K
    try simp only [Act.put, List.setIfInBounds_toArray]
    refine wpAnyH_ready (rs := [8]) (by kernel_rfl) (by simp) ?_
    refine AllReadyH.cons rfl (fun K hK => ?_) AllReadyH.nil
    go_simp
    refine hK.out _ _ S2 (fun hHeld3 => ?_)
    clear hK K
    try simp only [Act.put, List.setIfInBounds_toArray]
    refine wpAnyH_ready (rs := [9]) (by kernel_rfl) (by simp) ?_
    refine AllReadyH.cons rfl (fun K hK => ?_) AllReadyH.nil
    refine step_append_lies _ (by rfl) _ _ _ (by rfl) gd 57 ip _ 2 24 Tryz.underlying34 hip hp0 hp1 hp2 rfl (by omega) (.slice ai ims.length ci) ims.length (picC ims) (by rfl) H2.out.q.im ⟨W0.heap.size, 0, none⟩ 1 1 [.string s, .pointer none] (by rfl) (by rfl) (World.news_of_block (cs := #[.string s, .pointer none]) (t := 57) (fr := (0, 0)) (heap_alloc_new _ _)) (by simp [Value.oneCell']) (by omega) (by unfold maxLen; omega) (by omega) (by simp; omega) (W0.heap.size + 1) (by simp) ?_
    intro g2 cap2 w2 hown2 hgrow2 hat2 hlt2
    clear hat2 hlt2
    have mb2 := far_blk H2.out.q.im H2.out.q.w (by decide) hgrow2
    have ob2 := far_blk H2.out.q.im KO2.out (by decide) hgrow2
    have mb3 := blk_set mb2 0 (.slice (some ⟨g2, 0, none⟩) (ims.length + 1) cap2)
    have ob3 := blk_other ob2 (blk_ne' ob2 mb2 (by decide)) 0 (.slice (some ⟨g2, 0, none⟩) (ims.length + 1) cap2)
    refine hK.out _ _ (blk_cell (j := 4) ob2 rfl) (fun hHeld4 => ?_)
    have k5 := blk_cell (j := 0) mb2 rfl
    have f5' := blk_frozen mb2 0
    clear hK K
    try simp only [Act.put, List.setIfInBounds_toArray]
    refine wpAnyH_take (i := 10) (v := ?vb110) rfl (by kernel_rfl) (by kernel_rfl) (by kernel_rfl) (fun _ _ _ h => h) (Or.inl ⟨by rfl, ?hyb110⟩) (by assumption) ?restb110
    case hyb110 => (intro w hSw; (try dsimp only at hSw); go_simp; try (with_reducible rfl))
    try simp only [Act.put]
    refine wpAnyH_take (i := 11) (v := ?vb111) rfl (by kernel_rfl) (by kernel_rfl) (by kernel_rfl) (fun _ _ _ h => h) (Or.inl ⟨by rfl, ?hyb111⟩) (by assumption) ?restb111
    case hyb111 => (intro w hSw; (try dsimp only at hSw); go_simp; try (with_reducible rfl))
    try simp only [Act.put]
    refine wpAnyH_ready (rs := [12]) (by kernel_rfl) (by simp) ?_
    refine AllReadyH.cons rfl (fun K hK => ?_) AllReadyH.nil
    go_simp
    refine hK.out _ _ (blk_cell (j := 4) ob3 rfl) (fun hHeld5 => ?_)
    clear hK K
    refine wpAnyH_done (by kernel_rfl) ?_ _
    have H3 := hide (H2.out.image hgrow2 hown2)
    have LB : Hid (Below gd W0 (w2.setCell ⟨gw, 0, none⟩ (.slice (some ⟨g2, 0, none⟩) (ims.length + 1) cap2))) := ((((Below.refl gd W0).alloc (by omega) (.cells #[.string s, .pointer none] 57)).drew).grown hgrow2 (by simp; omega) (fun k hk => (World.ownsRow.lt H2.out.q.im k hk).1)).setCell H0.out.up.1 _
    clear hHeld4 hHeld5 mb2 mb3 ob2 ob3 k5 f5' hown2 hgrow2 H2
    generalize w2.setCell ⟨gw, 0, none⟩ (.slice (some ⟨g2, 0, none⟩) (ims.length + 1) cap2) = W4 at *
    go_wp2
    go_ret
    exact ⟨rfl, LO.out.trans LB.out, _, _, _, _, _, _, _, _, GRI.out _ _ _ H3.out, by simp, by omega, by omega, ⟨hn.1, by omega⟩, fun y hy => .inl hy, fun t ht => by simpa using ht⟩
  · have c0' := blk_cell (j := 0) H2.out.q.w rfl
    go_simp
    refine hK.out _ _ S2 (fun hHeld2 => ?_)
    clear hK K
    try simp only [Act.put, List.setIfInBounds_toArray]
    refine wpAnyH_ready (rs := [4]) (by kernel_rfl) (by simp) ?_
    refine AllReadyH.cons rfl (fun K hK => ?_) AllReadyH.nil
    go_simp
    refine hK.out _ _ S2 (fun hHeld3 => ?_)
    clear hK K
    try simp only [Act.put, List.setIfInBounds_toArray]
    refine wpAnyH_ready (rs := [9]) (by kernel_rfl) (by simp) ?_
    refine AllReadyH.cons rfl (fun K hK => ?_) AllReadyH.nil
    refine step_append_lies _ (by rfl) _ _ _ (by rfl) gd 57 ip _ 2 24 Tryz.underlying34 hip hp0 hp1 hp2 rfl (by omega) (.slice ai ims.length ci) ims.length (picC ims) (by rfl) H2.out.q.im ⟨W0.heap.size, 0, none⟩ 1 1 [.string s, .pointer none] (by rfl) (by rfl) (World.news_of_block (cs := #[.string s, .pointer none]) (t := 57) (fr := (0, 0)) (heap_alloc_new _ _)) (by simp [Value.oneCell']) (by omega) (by unfold maxLen; omega) (by omega) (by simp; omega) (W0.heap.size + 1) (by simp) ?_
    intro g2 cap2 w2 hown2 hgrow2 hat2 hlt2
    clear hat2 hlt2
    have mb2 := far_blk H2.out.q.im H2.out.q.w (by decide) hgrow2
    have ob2 := far_blk H2.out.q.im KO2.out (by decide) hgrow2
    have mb3 := blk_set mb2 0 (.slice (some ⟨g2, 0, none⟩) (ims.length + 1) cap2)
    have ob3 := blk_other ob2 (blk_ne' ob2 mb2 (by decide)) 0 (.slice (some ⟨g2, 0, none⟩) (ims.length + 1) cap2)
    refine hK.out _ _ (blk_cell (j := 4) ob2 rfl) (fun hHeld4 => ?_)
    have k5 := blk_cell (j := 0) mb2 rfl
    have f5' := blk_frozen mb2 0
    clear hK K
    try simp only [Act.put, List.setIfInBounds_toArray]
    refine wpAnyH_take (i := 10) (v := ?vb210) rfl (by kernel_rfl) (by kernel_rfl) (by kernel_rfl) (fun _ _ _ h => h) (Or.inl ⟨by rfl, ?hyb210⟩) (by assumption) ?restb210
    case hyb210 => (intro w hSw; (try dsimp only at hSw); go_simp; try (with_reducible rfl))
    try simp only [Act.put]
    refine wpAnyH_take (i := 11) (v := ?vb211) rfl (by kernel_rfl) (by kernel_rfl) (by kernel_rfl) (fun _ _ _ h => h) (Or.inl ⟨by rfl, ?hyb211⟩) (by assumption) ?restb211
    case hyb211 => (intro w hSw; (try dsimp only at hSw); go_simp; try (with_reducible rfl))
    try simp only [Act.put]
    refine wpAnyH_ready (rs := [12]) (by kernel_rfl) (by simp) ?_
    refine AllReadyH.cons rfl (fun K hK => ?_) AllReadyH.nil
    go_simp
    refine hK.out _ _ (blk_cell (j := 4) ob3 rfl) (fun hHeld5 => ?_)
    clear hK K
    refine wpAnyH_done (by kernel_rfl) ?_ _
    have H3 := hide (H2.out.image hgrow2 hown2)
    have LB : Hid (Below gd W0 (w2.setCell ⟨gw, 0, none⟩ (.slice (some ⟨g2, 0, none⟩) (ims.length + 1) cap2))) := ((((Below.refl gd W0).alloc (by omega) (.cells #[.string s, .pointer none] 57)).drew).grown hgrow2 (by simp; omega) (fun k hk => (World.ownsRow.lt H2.out.q.im k hk).1)).setCell H0.out.up.1 _
    clear hHeld4 hHeld5 mb2 mb3 ob2 ob3 k5 f5' hown2 hgrow2 H2
    generalize w2.setCell ⟨gw, 0, none⟩ (.slice (some ⟨g2, 0, none⟩) (ims.length + 1) cap2) = W4 at *
    go_wp2
    go_ret
    exact ⟨rfl, LO.out.trans LB.out, _, _, _, _, _, _, _, _, GRI.out _ _ _ H3.out, by simp, by omega, by omega, ⟨hn.1, by omega⟩, fun y hy => .inl hy, fun t ht => by simpa using ht⟩

end Go.Proofs.YtmccnmgaoppogaaGreat

/-
  The walks: the document's Feed, Finish. (weirref)
-/
import Derived.Test.YtmccnmgaoppogaaGreatD6
namespace Go.Proofs.YtmccnmgaoppogaaGreat
open Go.RowKit

/-- a list of the scanner's own -/
def Own (L g : Nat) (v : Value) : Prop := ∀ x, v.ownBlock = some x → L ≤ x ∧ x < g

/-- the document's scanner: where it stands -/
def Ds (P : Value → Prop) (W : World) (gs : Nat) (E : Pure.Env) (C : Pure.Cfg) : Prop :=
  ∃ ve vr vc f, P ve ∧ Blk W gs 133 (docCells E ve vr vc (restOf E C)) ∧ Lists W E.p ve vr vc ∧ Pure.Good E f ∧ Pure.Runs E (cfg0 E.p) C

def RetFedR (P : Value → Prop) (gs : Nat) (E : Pure.Env) (C : Pure.Cfg) (w : World) (e : Ending) (w' : World) : Prop :=
  ∃ D vo, Pure.Runs E (cfg0 E.p) D ∧ e = .returned (.tuple #[vo, .int .i64 D.err]) ∧ w'.ownsRow w.heap.size 74 5 vo (D.toks.length - C.toks.length) (tokCells (D.toks.drop C.toks.length)) ∧ Ds P w' gs E D ∧ w.grownBy w' (some gs)

theorem Ds.below {P : Value → Prop} {W W' : World} {gs : Nat} {E : Pure.Env} {C : Pure.Cfg} (h : Ds P W gs E C) (hb : Below W.heap.size W W') : Ds P W' gs E C := by
  obtain ⟨ve, vr, vc, f, h0, h1, h2, h3⟩ := h
  exact ⟨ve, vr, vc, f, h0, blk_below h1 hb (blk_lt h1), h2.below hb, h3⟩
theorem Ds.lt {P : Value → Prop} {W : World} {gs : Nat} {E : Pure.Env} {C : Pure.Cfg} (h : Ds P W gs E C) : gs < W.heap.size := by
  obtain ⟨ve, vr, vc, f, _, h1, _⟩ := h
  exact blk_lt h1
theorem Ds.toks {P : Value → Prop} {W : World} {gs : Nat} {E : Pure.Env} {C : Pure.Cfg} (h : Ds P W gs E C) : C.toks.length ≤ E.s.size := by
  obtain ⟨ve, vr, vc, f, _, _, _, h3, h4⟩ := h
  have s := h4.1.inv h3 (sta1 h3)
  have := s.toks
  have := s.within
  have := s.looked
  omega

set_option maxRecDepth 100000 in
set_option maxHeartbeats 2000000 in
theorem refFeed_any (P : Value → Prop) (gs : Nat) (E : Pure.Env) (C : Pure.Cfg) (chunk : ByteArray) (w : World) (h : Ds P w gs E C) (he : C.err = 0) (hE : E.ended = false) (hs : E.s.size + chunk.size ≤ 1099511627776) :
    Calls Tryz.prog 38 #[.pointer (some ⟨gs, 0, none⟩), .string chunk] w (RetFedR P gs (E.on chunk false) C w) := by
  have ht := h.toks
  obtain ⟨ve, vr, vc, f, hP, hb, hl, gd, hr⟩ := h
  have HP := hide hP
  clear hP
  have c9 := blk_cell (j := 9) hb (u := .int .i64 0) (by rw [← he]; rfl)
  have c7 := blk_cell (j := 7) hb (u := .bool false) (by rw [← hE]; rfl)
  have c6 := blk_cell (j := 6) hb rfl
  have f6 := blk_frozen hb 6
  have b1 : Blk (w.setCell ⟨gs, 6, none⟩ (.string (E.s ++ chunk))) gs 133 (docCells (E.on chunk false) ve vr vc (restOf E C)) := by
    have z := blk_set hb 6 (.string (E.s ++ chunk))
    have e : (docCells E ve vr vc (restOf E C)).set 6 (.string (E.s ++ chunk)) = docCells (E.on chunk false) ve vr vc (restOf E C) := by
      unfold docCells Pure.Env.on
      rw [hE]
      rfl
    rw [e] at z
    exact z
  have g1 := Lib.grownBy_setCell w gs 6 (.string (E.s ++ chunk))
  have l1 : Lists (w.setCell ⟨gs, 6, none⟩ (.string (E.s ++ chunk))) (E.on chunk false).p ve vr vc := hl.on hb (by decide) (by decide) (by decide) g1
  have gd' : Pure.Good (E.on chunk false) f := gd.on chunk false
  have hs' : (E.on chunk false).s.size ≤ 1099511627776 := by rw [Pure.on_size]; exact hs
  have DO := hide (done_any f gs (E.on chunk false) ve vr vc C.toks.length (.int .i64 C.err) _ _ _ _ _ _ _ (w.setCell ⟨gs, 6, none⟩ (.string (E.s ++ chunk))) gd' hs' (by omega) b1 l1)
  have G1 := hide g1
  have sz : (w.setCell ⟨gs, 6, none⟩ (.string (E.s ++ chunk))).heap.size = w.heap.size := by simp [World.setCell]
  have SZ := hide sz
  have GD := hide gd'
  clear b1 l1 g1 hb hl gd gd' hs' hr he hE sz
  go_enter Tryz.func38, Tryz.ntmps38
  go_wp2_with fail
  refine DO.out.mono ?_
  clear DO
  rintro e w1 ⟨D, vo, hR, rfl, hO, hB, hL, hG⟩
  have FIN : Hid (RetFedR P gs (E.on chunk false) C w (.returned (.tuple #[vo, .int .i64 D.err])) w1) := by
    rw [SZ.out] at hO
    exact ⟨D, vo, hR, rfl, hO, ⟨ve, vr, vc, f, HP.out, hB, hL, GD.out, hR⟩, Lib.grownBy_trans G1.out hG⟩
  clear hR hO hB hL hG
  go_wp2
  go_ret2
  exact FIN.out

theorem app_none (s : ByteArray) : s ++ noBytes = s := by
  apply ByteArray.ext
  simp [noBytes]

set_option maxRecDepth 100000 in
set_option maxHeartbeats 2000000 in
theorem refFinish_any (P : Value → Prop) (gs : Nat) (E : Pure.Env) (C : Pure.Cfg) (w : World) (h : Ds P w gs E C) (he : C.err = 0) (hE : E.ended = false) (hs : E.s.size ≤ 1099511627776) :
    Calls Tryz.prog 40 #[.pointer (some ⟨gs, 0, none⟩)] w (RetFedR P gs (E.on noBytes true) C w) := by
  have ht := h.toks
  obtain ⟨ve, vr, vc, f, hP, hb, hl, gd, hr⟩ := h
  have HP := hide hP
  clear hP
  have c9 := blk_cell (j := 9) hb (u := .int .i64 0) (by rw [← he]; rfl)
  have c7 := blk_cell (j := 7) hb (u := .bool false) (by rw [← hE]; rfl)
  have f7 := blk_frozen hb 7
  have b1 : Blk (w.setCell ⟨gs, 7, none⟩ (.bool true)) gs 133 (docCells (E.on noBytes true) ve vr vc (restOf E C)) := by
    have z := blk_set hb 7 (.bool true)
    have e : (docCells E ve vr vc (restOf E C)).set 7 (.bool true) = docCells (E.on noBytes true) ve vr vc (restOf E C) := by
      unfold docCells Pure.Env.on
      rw [app_none]
      rfl
    rw [e] at z
    exact z
  have g1 := Lib.grownBy_setCell w gs 7 (.bool true)
  have l1 : Lists (w.setCell ⟨gs, 7, none⟩ (.bool true)) (E.on noBytes true).p ve vr vc := hl.on hb (by decide) (by decide) (by decide) g1
  have gd' : Pure.Good (E.on noBytes true) f := gd.on noBytes true
  have hs' : (E.on noBytes true).s.size ≤ 1099511627776 := by rw [Pure.on_size]; exact hs
  have DO := hide (done_any f gs (E.on noBytes true) ve vr vc C.toks.length (.int .i64 C.err) _ _ _ _ _ _ _ (w.setCell ⟨gs, 7, none⟩ (.bool true)) gd' hs' (by omega) b1 l1)
  have G1 := hide g1
  have sz : (w.setCell ⟨gs, 7, none⟩ (.bool true)).heap.size = w.heap.size := by simp [World.setCell]
  have SZ := hide sz
  have GD := hide gd'
  clear b1 l1 g1 hb hl gd gd' hs' hr he hE sz
  go_enter Tryz.func40, Tryz.ntmps40
  go_wp2_with fail
  refine DO.out.mono ?_
  clear DO
  rintro e w1 ⟨D, vo, hR, rfl, hO, hB, hL, hG⟩
  have FIN : Hid (RetFedR P gs (E.on noBytes true) C w (.returned (.tuple #[vo, .int .i64 D.err])) w1) := by
    rw [SZ.out] at hO
    exact ⟨D, vo, hR, rfl, hO, ⟨ve, vr, vc, f, HP.out, hB, hL, GD.out, hR⟩, Lib.grownBy_trans G1.out hG⟩
  clear hR hO hB hL hG
  go_wp2
  go_ret2
  exact FIN.out

def RetShutD (code : Int) (w : World) (e : Ending) (w' : World) : Prop := e = .returned (.tuple #[.slice none 0 0, .int .i64 code]) ∧ Below w.heap.size w w'

set_option maxRecDepth 100000 in
set_option maxHeartbeats 2000000 in
theorem refFeed_shut (P : Value → Prop) (gs : Nat) (E : Pure.Env) (C : Pure.Cfg) (chunk : ByteArray) (w : World) (h : Ds P w gs E C) (hE : C.err ≠ 0 ∨ E.ended = true) :
    Calls Tryz.prog 38 #[.pointer (some ⟨gs, 0, none⟩), .string chunk] w (RetShutD (shut true C.err) w) := by
  obtain ⟨ve, vr, vc, f, -, hb, hl, gd, hr⟩ := h
  by_cases he : C.err = 0
  · have hE' : E.ended = true := by
      rcases hE with h | h
      · exact absurd he h
      · exact h
    have c9 := blk_cell (j := 9) hb (u := .int .i64 0) (by rw [← he]; rfl)
    have c7 := blk_cell (j := 7) hb (u := .bool true) (by rw [← hE']; rfl)
    have e : shut true C.err = 8 := by unfold shut; rw [if_neg (by omega), if_pos rfl]
    rw [e]
    clear hb hl gd hr hE hE' he e
    go_enter Tryz.func38, Tryz.ntmps38
    go_wp2
    go_ret2
    exact ⟨rfl, Below.refl _ _⟩
  · have c9 := blk_cell (j := 9) hb rfl
    have d1 : (C.err == 0) = false := by simpa using he
    have e : shut true C.err = C.err := by unfold shut; rw [if_pos he]
    rw [e]
    clear hb hl gd hr hE e
    go_enter Tryz.func38, Tryz.ntmps38
    go_wp2_with fail
    go_quiet (fail)
    go_wp2
    go_ret2
    exact ⟨rfl, below_drewN (Below.refl _ _) _⟩

set_option maxRecDepth 100000 in
set_option maxHeartbeats 2000000 in
theorem refFinish_shut (P : Value → Prop) (gs : Nat) (E : Pure.Env) (C : Pure.Cfg) (w : World) (h : Ds P w gs E C) (hE : C.err ≠ 0 ∨ E.ended = true) :
    Calls Tryz.prog 40 #[.pointer (some ⟨gs, 0, none⟩)] w (RetShutD (shut true C.err) w) := by
  obtain ⟨ve, vr, vc, f, -, hb, hl, gd, hr⟩ := h
  by_cases he : C.err = 0
  · have hE' : E.ended = true := by
      rcases hE with h | h
      · exact absurd he h
      · exact h
    have c9 := blk_cell (j := 9) hb (u := .int .i64 0) (by rw [← he]; rfl)
    have c7 := blk_cell (j := 7) hb (u := .bool true) (by rw [← hE']; rfl)
    have e : shut true C.err = 8 := by unfold shut; rw [if_neg (by omega), if_pos rfl]
    rw [e]
    clear hb hl gd hr hE hE' he e
    go_enter Tryz.func40, Tryz.ntmps40
    go_wp2
    go_ret2
    exact ⟨rfl, Below.refl _ _⟩
  · have c9 := blk_cell (j := 9) hb rfl
    have d1 : (C.err == 0) = false := by simpa using he
    have e : shut true C.err = C.err := by unfold shut; rw [if_pos he]
    rw [e]
    clear hb hl gd hr hE e
    go_enter Tryz.func40, Tryz.ntmps40
    go_wp2_with fail
    go_quiet (fail)
    go_wp2
    go_ret2
    exact ⟨rfl, below_drewN (Below.refl _ _) _⟩

end Go.Proofs.YtmccnmgaoppogaaGreat

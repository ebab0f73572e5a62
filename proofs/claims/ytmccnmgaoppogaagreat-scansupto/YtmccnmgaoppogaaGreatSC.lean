/-
  The walks: Feed, Finish. (scan, weir)
  The walks: Start, and the calls of a scanner. (scan, weir)
  The walks: Begin, Start. (scan, weir)
  The walks: Start. (weir)
-/
import Derived.Test.YtmccnmgaoppogaaGreatS7
import Derived.Test.YtmccnmgaoppogaaGreatR5
namespace Go.Proofs.YtmccnmgaoppogaaGreat
open Go.RowKit

def noBytes : ByteArray := ⟨#[]⟩

/-- a scanner: where it stands; whether the input has ended is told by its block as long as there is no error -/
def Sc (w : World) (g : Nat) (E : Pure.Env) (D : Pure.Cfg) : Prop := ∃ f ve vr vc vh b, (D.err = 0 → b = E.ended) ∧ Scn w g { E with ended := b } D f ve vr vc vh

def RetFed (g : Nat) (E : Pure.Env) (C : Pure.Cfg) (w : World) (e : Ending) (w' : World) : Prop :=
  ∃ D T vt, Pure.Runs E C D ∧ D.toks = C.toks ++ T ∧ e = .returned (.tuple #[vt, .int .i64 D.err]) ∧ w'.ownsRow w.heap.size 74 5 vt T.length (tokCells T) ∧ Sc w' g E D ∧ w.grownBy w' (some g)

theorem Mach.env {w : World} {g : Nat} {E E' : Pure.Env} {ve vr vc vh : Value} {C : Pure.Cfg} {fault : Int} (m : Mach w g E ve vr vc vh C fault) (h1 : E'.p = E.p) (h2 : E'.most = E.most) (h3 : E'.depth = E.depth) (h4 : E'.ended = E.ended) : Mach w g E' ve vr vc vh C fault :=
  ⟨by rw [h2, h3, h4]; exact m.blk, by rw [h1]; exact m.l⟩

theorem extract_list (u : ByteArray) (a b : Nat) : (u.extract a b).data.toList = (u.data.toList.drop a).take (b - a) := by simp

theorem join_rest (s t : ByteArray) (a : Nat) (h : a ≤ s.size) : s.extract a s.size ++ t = (s ++ t).extract a (s ++ t).size := by
  apply ByteArray.ext
  apply Array.toList_inj.1
  have hl : s.data.toList.length = s.size := by simp
  have ht : t.data.toList.length = t.size := by simp
  have e1 : (s ++ t).size = s.size + t.size := by simp
  have e2 : (s ++ t).data.toList = s.data.toList ++ t.data.toList := by simp
  have e3 : (s.extract a s.size ++ t).data.toList = (s.data.toList.drop a).take (s.size - a) ++ t.data.toList := by simp
  have e4 : ((s ++ t).extract a (s ++ t).size).data.toList = ((s ++ t).data.toList.drop a).take ((s ++ t).size - a) := extract_list _ _ _
  rw [e3, e4, e2, e1, List.drop_append_of_le_length (by omega), List.take_of_length_le (by rw [List.length_drop]; omega), List.take_of_length_le (by rw [List.length_append, List.length_drop]; omega)]

theorem back_str (w : World) (v : Value) (s : ByteArray) (h : ByteRow w v s) : (convert 152 9 v).run Tryz.prog w = .ok (.string s) w := by
  rcases h with ⟨h0, rfl⟩ | ⟨b, cap, cs, fr, rfl, h2, h2', h3, h4⟩
  · have : s = ⟨#[]⟩ := by
      apply ByteArray.ext
      exact Array.eq_empty_of_size_eq_zero h0
    subst this
    rw [run_convert_bytes_string w 152 9 5 none 0 0 Tryz.underlying152 Tryz.underlying5 Tryz.underlying9]
    first | rfl | simp [Conv.bytesToString]
  · have hl : s.data.toList.length = s.size := by simp
    have := run_convert_bytes_back (P := Tryz.prog) w 152 9 5 ⟨b, 0, none⟩ cap s.data.toList Tryz.underlying152 Tryz.underlying5 Tryz.underlying9 (fun j hj => by
      have h5 := h4 j (by omega)
      have h6 : w.cell? ⟨b, j, none⟩ = cs[j]? := by simp [World.cell?, h3]
      have h7 : bt s j = ((s.data.toList[j]).toNat : Int) := by unfold bt; rw [List.getD_eq_getElem?_getD, List.getElem?_eq_getElem hj]; rfl
      rw [add_eq, Nat.zero_add, h6, h5, h7])
    rw [hl] at this
    simpa using this

set_option maxRecDepth 100000 in
set_option maxHeartbeats 1000000 in
theorem runFeed_any (g : Nat) (E : Pure.Env) (C : Pure.Cfg) (chunk : ByteArray) (w : World) (h : Sc w g E C) (hE : E.ended = false) (hs : E.s.size + chunk.size ≤ 1099511627776) :
    Calls Tryz.prog 72 #[.pointer (some ⟨g, 0, none⟩), .string chunk] w (RetFed g (E.on chunk false) C w) := by
  obtain ⟨f, ve, vr, vc, vh, b, hb, hS⟩ := h
  have HC := hide (closed_any g _ ve vr vc vh C C.err w hS.m)
  by_cases he : C.err = 0
  · have hb' := (hb he).trans hE
    subst hb'
    have hsz := hS.sta.within
    have hp := hS.sta.pos
    have hlk := hS.sta.looked
    obtain ⟨ah, ch, rfl, hh1, hh2⟩ := hS.h.form
    have c24 := hS.m.cell (j := 24) rfl
    have CV := back_str w _ _ hS.h
    have eH : heldOf { E with ended := false } C = E.s.extract C.pos.toNat E.s.size := by unfold heldOf; rw [if_neg (by omega)]
    rw [eH] at CV c24 hh1
    have EJ : Hid (E.s.extract C.pos.toNat E.s.size ++ chunk = (E.on chunk false).s.extract C.pos.toNat (E.on chunk false).s.size) := join_rest E.s chunk C.pos.toNat (by simp at hsz; omega)
    have AD : Hid (Calls Tryz.prog 104 #[.pointer (some ⟨g, 0, none⟩), .string (E.s.extract C.pos.toNat E.s.size ++ chunk)] w (RetAdv f g (E.on chunk false) ve vr vc C w)) := by
      show Calls _ _ _ _ _
      rw [EJ.out]
      have m1 := hS.m
      rw [he] at m1
      exact advance_any f g (E.on chunk false) ve vr vc _ C w (hS.good.on chunk false) (hS.sta.on chunk false) he (by rw [Pure.on_size]; exact hs) (m1.env rfl rfl rfl rfl)
    have e0 : shut false C.err = 0 := by simp [shut, he]
    rw [e0] at HC
    have hcat : (E.s.extract C.pos.toNat E.s.size).size + chunk.size ≤ 1099511627776 := by simp; omega
    clear hS hb hE EJ eH hsz hp hlk hh1 hh2
    generalize E.s.extract C.pos.toNat E.s.size = hd at *
    go_enter Tryz.func72, Tryz.ntmps72
    go_wp2_with fail
    refine HC.out.mono ?_
    rintro e w1 ⟨rfl, rfl⟩
    clear HC
    go_wp2_with fail
    refine AD.out.mono ?_
    rintro e w2 ⟨D, T, vt, vh', hr, ht, rfl, ho, hS, hg⟩
    have FIN : Hid (RetFed g (E.on chunk false) C w1 (.returned (.tuple #[vt, .int .i64 D.err])) w2) := ⟨D, T, vt, hr, ht, rfl, ho, ⟨f, ve, vr, vc, vh', false, fun _ => rfl, hS⟩, hg⟩
    clear AD hr ht ho hS hg
    go_wp2
    go_ret2
    exact FIN.out
  · have e0 : shut b C.err = C.err := by simp [shut, he]
    have e1 : (C.err != 0) = true := by simpa using he
    have SC : Hid (Sc w g (E.on chunk false) C) := by
      refine ⟨f, ve, vr, vc, vh, b, fun h0 => absurd h0 he, hS.m.env rfl rfl rfl rfl, ?_, hS.good.on chunk b, hS.sta.on chunk b⟩
      have := hS.h
      unfold heldOf at this ⊢
      rw [if_pos he] at this ⊢
      exact this
    rw [e0] at HC
    clear hS hb
    go_enter Tryz.func72, Tryz.ntmps72
    go_wp2_with fail
    refine HC.out.mono ?_
    rintro e w1 ⟨rfl, rfl⟩
    clear HC
    go_wp2
    go_ret2
    exact ⟨C, [], _, ⟨.refl _, Pure.mic_err he⟩, by simp, rfl, World.ownsRow_nil _ _ _ _, SC.out, World.grownBy.refl _ _⟩

set_option maxRecDepth 100000 in
set_option maxHeartbeats 1000000 in
theorem runFinish_any (g : Nat) (E : Pure.Env) (C : Pure.Cfg) (w : World) (h : Sc w g E C) (hE : E.ended = false) (hs : E.s.size ≤ 1099511627776) :
    Calls Tryz.prog 74 #[.pointer (some ⟨g, 0, none⟩)] w (RetFed g (E.on noBytes true) C w) := by
  obtain ⟨f, ve, vr, vc, vh, b, hb, hS⟩ := h
  have HC := hide (closed_any g _ ve vr vc vh C C.err w hS.m)
  by_cases he : C.err = 0
  · have hb' := (hb he).trans hE
    subst hb'
    have hsz := hS.sta.within
    have hp := hS.sta.pos
    have hlk := hS.sta.looked
    obtain ⟨ah, ch, rfl, hh1, hh2⟩ := hS.h.form
    have m1 := hS.m
    rw [he] at m1
    have m2 := m1.set 25 (.bool true) (E.on noBytes true) rfl (D := C) (fault' := 0) rfl
    have G1 := hide (Lib.grownBy_setCell w g 25 (.bool true))
    have hB2 := hS.h.on m1.blk (by decide) G1.out
    have c25 := hS.m.cell (j := 25) rfl
    have f25 := hS.m.frozen 25
    have c24 := m2.cell (j := 24) rfl
    have CV := back_str _ _ _ hB2
    have eH : heldOf { E with ended := false } C = E.s.extract C.pos.toNat E.s.size := by unfold heldOf; rw [if_neg (by omega)]
    rw [eH] at CV c24 hh1
    have EJ : Hid (E.s.extract C.pos.toNat E.s.size = (E.on noBytes true).s.extract C.pos.toNat (E.on noBytes true).s.size) := by
      have := join_rest E.s noBytes C.pos.toNat (by simp at hsz; omega)
      show _ = _
      rw [show (E.on noBytes true).s = E.s ++ noBytes from rfl, ← this]
      apply ByteArray.ext
      simp [noBytes]
    have AD : Hid (Calls Tryz.prog 104 #[.pointer (some ⟨g, 0, none⟩), .string (E.s.extract C.pos.toNat E.s.size)] (w.setCell ⟨g, 25, none⟩ (.bool true)) (RetAdv f g (E.on noBytes true) ve vr vc C (w.setCell ⟨g, 25, none⟩ (.bool true)))) := by
      show Calls _ _ _ _ _
      rw [EJ.out]
      exact advance_any f g (E.on noBytes true) ve vr vc _ C _ (hS.good.on noBytes true) (hS.sta.on noBytes true) he (by rw [Pure.on_size]; exact hs) m2
    have e0 : shut false C.err = 0 := by simp [shut, he]
    rw [e0] at HC
    have SZ : Hid ((w.setCell ⟨g, 25, none⟩ (.bool true)).heap.size = w.heap.size) := by show _ = _; simp [World.setCell]
    clear hS hb hE EJ eH hsz hp hlk hh1 hh2 m1 m2 hB2
    generalize E.s.extract C.pos.toNat E.s.size = hd at *
    go_enter Tryz.func74, Tryz.ntmps74
    go_wp2_with fail
    refine HC.out.mono ?_
    rintro e w1 ⟨rfl, rfl⟩
    clear HC
    go_wp2_with fail
    refine AD.out.mono ?_
    rintro e w2 ⟨D, T, vt, vh', hr, ht, rfl, ho, hS, hg⟩
    rw [SZ.out] at ho
    have FIN : Hid (RetFed g (E.on noBytes true) C w1 (.returned (.tuple #[vt, .int .i64 D.err])) w2) := ⟨D, T, vt, hr, ht, rfl, ho, ⟨f, ve, vr, vc, vh', true, fun _ => rfl, hS⟩, Lib.grownBy_trans G1.out hg⟩
    clear AD hr ht ho hS hg
    go_wp2
    go_ret2
    exact FIN.out
  · have e0 : shut b C.err = C.err := by simp [shut, he]
    have e1 : (C.err != 0) = true := by simpa using he
    have SC : Hid (Sc w g (E.on noBytes true) C) := by
      refine ⟨f, ve, vr, vc, vh, b, fun h0 => absurd h0 he, hS.m.env rfl rfl rfl rfl, ?_, hS.good.on noBytes b, hS.sta.on noBytes b⟩
      have := hS.h
      unfold heldOf at this ⊢
      rw [if_pos he] at this ⊢
      exact this
    rw [e0] at HC
    clear hS hb
    go_enter Tryz.func74, Tryz.ntmps74
    go_wp2_with fail
    refine HC.out.mono ?_
    rintro e w1 ⟨rfl, rfl⟩
    clear HC
    go_wp2
    go_ret2
    exact ⟨C, [], _, ⟨.refl _, Pure.mic_err he⟩, by simp, rfl, World.ownsRow_nil _ _ _ _, SC.out, World.grownBy.refl _ _⟩

/-- behind Finish: nothing any more -/
def RetShut (code : Int) (w : World) (e : Ending) (w' : World) : Prop := e = .returned (.tuple #[.slice none 0 0, .int .i64 code]) ∧ w' = w

set_option maxRecDepth 100000 in
set_option maxHeartbeats 1000000 in
theorem runFeed_shut (g : Nat) (E : Pure.Env) (C : Pure.Cfg) (chunk : ByteArray) (w : World) (h : Sc w g E C) (hE : E.ended = true) :
    Calls Tryz.prog 72 #[.pointer (some ⟨g, 0, none⟩), .string chunk] w (RetShut (shut true C.err) w) := by
  obtain ⟨f, ve, vr, vc, vh, b, hb, hS⟩ := h
  have HC := hide (closed_any g _ ve vr vc vh C C.err w hS.m)
  have e0 : shut b C.err = shut true C.err := by
    by_cases he : C.err = 0
    · rw [hb he, hE]
    · simp [shut, he]
  have e1 : (shut true C.err != 0) = true := by
    unfold shut
    by_cases he : C.err = 0
    · simp [he]
    · simp [he]
  rw [show ({ E with ended := b } : Pure.Env).ended = b from rfl, e0] at HC
  clear hS hb e0
  generalize shut true C.err = z at *
  go_enter Tryz.func72, Tryz.ntmps72
  go_wp2_with fail
  refine HC.out.mono ?_
  rintro e w1 ⟨rfl, rfl⟩
  clear HC
  go_wp2
  go_ret2
  exact ⟨rfl, rfl⟩

set_option maxRecDepth 100000 in
set_option maxHeartbeats 1000000 in
theorem runFinish_shut (g : Nat) (E : Pure.Env) (C : Pure.Cfg) (w : World) (h : Sc w g E C) (hE : E.ended = true) :
    Calls Tryz.prog 74 #[.pointer (some ⟨g, 0, none⟩)] w (RetShut (shut true C.err) w) := by
  obtain ⟨f, ve, vr, vc, vh, b, hb, hS⟩ := h
  have HC := hide (closed_any g _ ve vr vc vh C C.err w hS.m)
  have e0 : shut b C.err = shut true C.err := by
    by_cases he : C.err = 0
    · rw [hb he, hE]
    · simp [shut, he]
  have e1 : (shut true C.err != 0) = true := by
    unfold shut
    by_cases he : C.err = 0
    · simp [he]
    · simp [he]
  rw [show ({ E with ended := b } : Pure.Env).ended = b from rfl, e0] at HC
  clear hS hb e0
  generalize shut true C.err = z at *
  go_enter Tryz.func74, Tryz.ntmps74
  go_wp2_with fail
  refine HC.out.mono ?_
  rintro e w1 ⟨rfl, rfl⟩
  clear HC
  go_wp2
  go_ret2
  exact ⟨rfl, rfl⟩

end Go.Proofs.YtmccnmgaoppogaaGreat

namespace Go.Proofs.YtmccnmgaoppogaaGreat
open Go.RowKit

set_option maxHeartbeats 1000000 in
theorem feed_any (g : Nat) (E : Pure.Env) (C : Pure.Cfg) (chunk : ByteArray) (w : World) (h : Sc w g E C) (hE : E.ended = false) (hs : E.s.size + chunk.size ≤ 1099511627776) :
    Calls Tryz.prog 37 #[.pointer (some ⟨g, 0, none⟩), .string chunk] w (RetFed g (E.on chunk false) C w) := by
  have H := hide (runFeed_any g E C chunk w h hE hs)
  clear h hE hs
  go_enter Tryz.func37, Tryz.ntmps37
  go_wp2_with fail
  refine H.out.mono ?_
  rintro e w2 ⟨D, T, vt, hr, ht, rfl, ho, hS, hg⟩
  have FIN : Hid (RetFed g (E.on chunk false) C w (.returned (.tuple #[vt, .int .i64 D.err])) w2) := ⟨D, T, vt, hr, ht, rfl, ho, hS, hg⟩
  clear H hr ht ho hS hg
  go_wp2
  go_ret2
  exact FIN.out

set_option maxHeartbeats 1000000 in
theorem finish_any (g : Nat) (E : Pure.Env) (C : Pure.Cfg) (w : World) (h : Sc w g E C) (hE : E.ended = false) (hs : E.s.size ≤ 1099511627776) :
    Calls Tryz.prog 39 #[.pointer (some ⟨g, 0, none⟩)] w (RetFed g (E.on noBytes true) C w) := by
  have H := hide (runFinish_any g E C w h hE hs)
  clear h hE hs
  go_enter Tryz.func39, Tryz.ntmps39
  go_wp2_with fail
  refine H.out.mono ?_
  rintro e w2 ⟨D, T, vt, hr, ht, rfl, ho, hS, hg⟩
  have FIN : Hid (RetFed g (E.on noBytes true) C w (.returned (.tuple #[vt, .int .i64 D.err])) w2) := ⟨D, T, vt, hr, ht, rfl, ho, hS, hg⟩
  clear H hr ht ho hS hg
  go_wp2
  go_ret2
  exact FIN.out

set_option maxHeartbeats 1000000 in
theorem feed_shut (g : Nat) (E : Pure.Env) (C : Pure.Cfg) (chunk : ByteArray) (w : World) (h : Sc w g E C) (hE : E.ended = true) :
    Calls Tryz.prog 37 #[.pointer (some ⟨g, 0, none⟩), .string chunk] w (RetShut (shut true C.err) w) := by
  have H := hide (runFeed_shut g E C chunk w h hE)
  clear h hE
  go_enter Tryz.func37, Tryz.ntmps37
  go_wp2_with fail
  refine H.out.mono ?_
  rintro e w2 ⟨rfl, rfl⟩
  go_wp2
  go_ret2
  exact ⟨rfl, rfl⟩

set_option maxHeartbeats 1000000 in
theorem finish_shut (g : Nat) (E : Pure.Env) (C : Pure.Cfg) (w : World) (h : Sc w g E C) (hE : E.ended = true) :
    Calls Tryz.prog 39 #[.pointer (some ⟨g, 0, none⟩)] w (RetShut (shut true C.err) w) := by
  have H := hide (runFinish_shut g E C w h hE)
  clear h hE
  go_enter Tryz.func39, Tryz.ntmps39
  go_wp2_with fail
  refine H.out.mono ?_
  rintro e w2 ⟨rfl, rfl⟩
  go_wp2
  go_ret2
  exact ⟨rfl, rfl⟩

def stateV (E : Pure.Env) (C : Pure.Cfg) : Value := .agg #[.int .i64 C.pos, .int .i64 C.line, .int .i64 C.col, .int .i64 C.mode, .int .i64 C.dep, .int .i64 (heldOf E C).size, .int .i64 C.steps]

theorem scState_any (g : Nat) (E : Pure.Env) (C : Pure.Cfg) (w : World) (h : Sc w g E C) :
    Calls Tryz.prog 52 #[.pointer (some ⟨g, 0, none⟩)] w (RetV (stateV E C) w) := by
  obtain ⟨f, ve, vr, vc, vh, b, hb, hS⟩ := h
  obtain ⟨ah, ch, rfl, h1, h2⟩ := hS.h.form
  exact state_any g _ ve vr vc ah _ ch C C.err w hS.m (by have h1' : (heldOf E C).size ≤ ch := h1; show (heldOf E C).size ≤ _; omega)

theorem Sc.below {w w' : World} {g : Nat} {E : Pure.Env} {C : Pure.Cfg} (h : Sc w g E C) (hb : Below w.heap.size w w') : Sc w' g E C := by
  obtain ⟨f, ve, vr, vc, vh, b, hb', hS⟩ := h
  exact ⟨f, ve, vr, vc, vh, b, hb', hS.m.below hb, hS.h.below hb, hS.good, hS.sta⟩
theorem Sc.lt {w : World} {g : Nat} {E : Pure.Env} {C : Pure.Cfg} (h : Sc w g E C) : g < w.heap.size := by
  obtain ⟨f, ve, vr, vc, vh, b, hb', hS⟩ := h
  exact blk_lt hS.m.blk

def cfg0 (p : Pure.Prg) : Pure.Cfg := ⟨0, 1, 1, 0, List.replicate 8 0, 0, 0, Pure.ig p.ents 0, 0, 0, 0, 0, [], 0⟩
def env0 (p : Pure.Prg) (most depth : Int) : Pure.Env := ⟨p, most, depth, noBytes, false⟩

theorem good0 {p : Pure.Prg} {most depth : Int} (hp : Pure.RightP p) (hm : 1 ≤ most ∧ most ≤ 64) (hd : 0 ≤ depth ∧ depth ≤ 8) : ∃ f, Pure.Good (env0 p most depth) f := by
  obtain ⟨f, h0, h1⟩ := Pure.ranked hp.2.2.2 hp.2.2.1.tight
  exact ⟨f, hp, hm, hd, h0, h1⟩

theorem sta0 {p : Pure.Prg} {most depth : Int} {f : Nat → Int} (g : Pure.Good (env0 p most depth) f) : Pure.Sta (env0 p most depth) f (cfg0 p) := by
  have hp : Pure.RightP p := g.right
  have hm : 1 ≤ most ∧ most ≤ 64 := g.most
  have hd : 0 ≤ depth ∧ depth ≤ 8 := g.depth
  have e := hp.1.1
  have en := hp.1.2 0 (by omega)
  have r := hp.2.1.1
  have f0 : 0 ≤ f (Pure.ig p.ents 0).toNat ∧ f (Pure.ig p.ents 0).toNat < p.code.length := g.f0 (Pure.ig p.ents 0).toNat (by show (Pure.ig p.ents 0).toNat < p.code.length; omega)
  have z1 : ((0 : Int) + 1) * (p.code.length : Int) = p.code.length := by rw [Int.zero_add, Int.one_mul]
  have z0 : (0 : Int) * Pure.per (env0 p most depth) = 0 := Int.zero_mul _
  have hc := hp.2.2.1.1
  refine ⟨Int.le_refl _, ⟨Int.le_refl _, by show (0 : Int) ≤ most; omega⟩, by show (0 : Int) + 0 ≤ (0 : Nat); omega, ⟨Int.le_refl _, Int.le_refl _⟩, ⟨en.1, by show Pure.ig p.ents 0 ≤ p.code.length; omega⟩, ⟨Int.le_refl _, by show (0 : Int) ≤ 255; omega⟩, ⟨Int.le_refl _, by show (0 : Int) < p.rules.length; omega⟩, ⟨Int.le_refl _, by show (0 : Int) < p.ents.length; omega⟩, ⟨rfl, fun i hi => ?_⟩, ⟨Int.le_refl _, hd.1⟩, ⟨Int.le_refl _, by show (1 : Int) ≤ 0 + 1; omega⟩, ⟨Int.le_refl _, by show (1 : Int) ≤ 0 + 1; omega⟩, ⟨Int.le_refl _, ?_⟩, fun _ => ⟨en.2, ?_⟩, ⟨Int.le_refl _, by show (0 : Int) ≤ 7; omega⟩, Int.le_refl _⟩
  · have : Pure.ig (List.replicate 8 0) i = 0 := by
      match i, hi with
      | 0, _ => rfl
      | 1, _ => rfl
      | 2, _ => rfl
      | 3, _ => rfl
      | 4, _ => rfl
      | 5, _ => rfl
      | 6, _ => rfl
      | 7, _ => rfl
    show 0 ≤ Pure.ig (List.replicate 8 0) i ∧ Pure.ig (List.replicate 8 0) i < p.ents.length
    rw [this]; omega
  · show (0 : Int) ≤ 0 * Pure.per (env0 p most depth) + (0 + 1) * p.code.length
    omega
  · show (0 : Int) + f (Pure.ig p.ents 0).toNat + 1 ≤ 0 * Pure.per (env0 p most depth) + (0 + 1) * p.code.length
    omega

end Go.Proofs.YtmccnmgaoppogaaGreat

namespace Go.Proofs.YtmccnmgaoppogaaGreat
open Go.RowKit

def beginC (ve vr vc : Value) (most depth x : Int) : Array Value :=
  #[ve, vr, vc, .int .i64 most, .int .i64 depth, .int .i64 0, .int .i64 1, .int .i64 1, .int .i64 0, .int .i64 0, .int .i64 0, .int .i64 0, .int .i64 0, .int .i64 0, .int .i64 0, .int .i64 0, .int .i64 0, .int .i64 0, .int .i64 0,
    .int .i64 x, .int .i64 0, .int .i64 0, .int .i64 0, .int .i64 0, .slice none 0 0, .bool false, .int .i64 0]

theorem build_run (ae : Option Addr) (ne ce : Nat) (ar : Option Addr) (nr cr : Nat) (ac : Option Addr) (nc cc : Nat) (most depth x : Int) (w : World) :
    (Instr.build 174 #[(0, .agg #[.slice ae ne ce, .slice ar nr cr, .slice ac nc cc]), (1, .int .i64 most), (2, .int .i64 depth), (4, .int .i64 1), (5, .int .i64 1), (10, .agg #[.int .i64 x, .int .i64 0, .int .i64 0, .int .i64 0, .int .i64 0])]).run Tryz.prog w = .ok (.agg (beginC (.slice ae ne ce) (.slice ar nr cr) (.slice ac nc cc) most depth x)) w :=
  run_build w 174 _ _ (by kernel_rfl)

theorem beginC_ok (ae : Option Addr) (ne ce : Nat) (ar : Option Addr) (nr cr : Nat) (ac : Option Addr) (nc cc : Nat) (most depth x : Int) : (beginC (.slice ae ne ce) (.slice ar nr cr) (.slice ac nc cc) most depth x).all (·.oneCell') = true := by
  kernel_rfl

theorem step_store_row {P : Program} {w : World} {ops : Array Oper} {o : Oper} {a : Act} {K : Act → World → Prop} {Q : Exit → Act → World → Prop} {E : Prop} (hgd : o.guard = none) (ty : TypeId) (x y : Operand) (ho : o.op = .store ty x y)
    (g : Nat) (cells : Array Value) (hx : a.eval x = .pointer (some ⟨g, 0, none⟩)) (hy : a.eval y = .agg cells)
    (t : TypeId) (old : Array Value) (hg : w.heap[g]? = some (.cells old t (0, 0))) (hi : (P.info? ty).map (·.size) = some cells.size)
    (hold : old.size = cells.size) (h1 : cells.all (·.oneCell') = true)
    (h : K (a.put o.dst undef) (w.setRow g cells)) : if Region.wanted o (yielded ops a.tmps) = true then Oper.wp P o a w K Q else E := by
  have hw : Region.wanted o (yielded ops a.tmps) = true := by simp [Region.wanted, hgd]
  rw [if_pos hw]
  exact wp_store_row ty x y ho g cells hx hy t old hg hi hold h1 h

theorem step_build {P : Program} {w : World} {ops : Array Oper} {o : Oper} {a : Act} {K : Act → World → Prop} {Q : Exit → Act → World → Prop} {E : Prop} (hgd : o.guard = none) (t : TypeId) (parts : Array (Nat × Operand)) (ho : o.op = .build t parts)
    (cells : Array Value) (hc : P.built t (parts.map fun (i, x) => (i, a.eval x)).toList = some cells)
    (h : K (a.put o.dst (.agg cells)) w) : if Region.wanted o (yielded ops a.tmps) = true then Oper.wp P o a w K Q else E := by
  have hw : Region.wanted o (yielded ops a.tmps) = true := by simp [Region.wanted, hgd]
  rw [if_pos hw]
  refine wp_build t parts ho (by rw [hc]; rfl) ?_
  rw [hc]
  exact h

theorem results_cell1 {fn : Func} {p : Tmp} {ty : TypeId} (h : fn.results = #[.cell p ty]) (tmps : Array Value) (P : Program) (w : World) :
    (results fn tmps).run P w = ((asAddr (tmps.getD p undef)).run P w).andThen fun a w₁ => (loadVar ty a).run P w₁ := by
  simp only [results, h]
  simp [Sem.run_bind, Result.andThen]

theorem Tryz.size174 : (Tryz.prog.info? 174).map (·.size) = some 27 := by kernel_rfl

set_option maxRecDepth 100000 in
set_option maxHeartbeats 2000000 in
theorem begin_any (ge ce : Nat) (ar : Option Addr) (nr cr : Nat) (ac : Option Addr) (nc cc : Nat) (p : Pure.Prg) (most depth : Int) (w : World) (hE : w.cell? ⟨ge, 0, none⟩ = some (.int .i64 (Pure.ig p.ents 0))) (hn : 1 ≤ p.ents.length) (_hc : p.ents.length ≤ ce) (_hc2 : ce ≤ 9223372036854775807) :
    Calls Tryz.prog 71 #[.agg #[.slice (some ⟨ge, 0, none⟩) p.ents.length ce, .slice ar nr cr, .slice ac nc cc], .int .i64 most, .int .i64 depth] w (RetV (.agg (beginC (.slice (some ⟨ge, 0, none⟩) p.ents.length ce) (.slice ar nr cr) (.slice ac nc cc) most depth (Pure.ig p.ents 0))) w) := by
  have hlt := World.block_lt_of_cell? w ⟨ge, 0, none⟩ hE
  simp only at hlt
  have n1 : ge ≠ w.heap.size := by omega
  have n2 : ge ≠ w.heap.size + 1 := by omega
  have n1' : w.heap.size ≠ ge := by omega
  have n2' : w.heap.size + 1 ≠ ge := by omega
  have n3 : w.heap.size + 1 ≠ w.heap.size := by omega
  have n3' : w.heap.size ≠ w.heap.size + 1 := by omega
  have hi : (0 : Int) < (p.ents.length : Int) := by omega
  generalize Pure.ig p.ents 0 = x at *
  generalize p.ents.length = ne at *
  have hn0 : 0 < ne := by omega
  go_enter Tryz.func71, Tryz.ntmps71
  go_wp2_with fail
  have hB := hide (((Below.refl w.heap.size w).alloc (Nat.le_refl _) (.cells #[.slice (some ⟨ge, 0, none⟩) ne ce, .slice ar nr cr, .slice ac nc cc] 43)).alloc (by simp) (.cells #[.slice none 0 0, .slice none 0 0, .slice none 0 0, .int .i64 0, .int .i64 0, .int .i64 0, .int .i64 0, .int .i64 0, .int .i64 0, .int .i64 0, .int .i64 0, .int .i64 0, .int .i64 0, .int .i64 0, .int .i64 0, .int .i64 0, .int .i64 0, .int .i64 0, .int .i64 0, .int .i64 0, .int .i64 0, .int .i64 0, .int .i64 0, .int .i64 0, .slice none 0 0, .bool false, .int .i64 0] 174))
  have KP : Blk ((w.alloc (.cells #[.slice (some ⟨ge, 0, none⟩) ne ce, .slice ar nr cr, .slice ac nc cc] 43)).alloc (.cells #[.slice none 0 0, .slice none 0 0, .slice none 0 0, .int .i64 0, .int .i64 0, .int .i64 0, .int .i64 0, .int .i64 0, .int .i64 0, .int .i64 0, .int .i64 0, .int .i64 0, .int .i64 0, .int .i64 0, .int .i64 0, .int .i64 0, .int .i64 0, .int .i64 0, .int .i64 0, .int .i64 0, .int .i64 0, .int .i64 0, .int .i64 0, .int .i64 0, .slice none 0 0, .bool false, .int .i64 0] 174)) w.heap.size 43 [.slice (some ⟨ge, 0, none⟩) ne ce, .slice ar nr cr, .slice ac nc cc] := blk_alloc (heap_alloc_new _ _) _
  have KR : Blk ((w.alloc (.cells #[.slice (some ⟨ge, 0, none⟩) ne ce, .slice ar nr cr, .slice ac nc cc] 43)).alloc (.cells #[.slice none 0 0, .slice none 0 0, .slice none 0 0, .int .i64 0, .int .i64 0, .int .i64 0, .int .i64 0, .int .i64 0, .int .i64 0, .int .i64 0, .int .i64 0, .int .i64 0, .int .i64 0, .int .i64 0, .int .i64 0, .int .i64 0, .int .i64 0, .int .i64 0, .int .i64 0, .int .i64 0, .int .i64 0, .int .i64 0, .int .i64 0, .int .i64 0, .slice none 0 0, .bool false, .int .i64 0] 174)) (w.heap.size + 1) 174 [.slice none 0 0, .slice none 0 0, .slice none 0 0, .int .i64 0, .int .i64 0, .int .i64 0, .int .i64 0, .int .i64 0, .int .i64 0, .int .i64 0, .int .i64 0, .int .i64 0, .int .i64 0, .int .i64 0, .int .i64 0, .int .i64 0, .int .i64 0, .int .i64 0, .int .i64 0, .int .i64 0, .int .i64 0, .int .i64 0, .int .i64 0, .int .i64 0, .slice none 0 0, .bool false, .int .i64 0] := by
    have := heap_alloc_new (w.alloc (.cells #[.slice (some ⟨ge, 0, none⟩) ne ce, .slice ar nr cr, .slice ac nc cc] 43)) (.cells #[.slice none 0 0, .slice none 0 0, .slice none 0 0, .int .i64 0, .int .i64 0, .int .i64 0, .int .i64 0, .int .i64 0, .int .i64 0, .int .i64 0, .int .i64 0, .int .i64 0, .int .i64 0, .int .i64 0, .int .i64 0, .int .i64 0, .int .i64 0, .int .i64 0, .int .i64 0, .int .i64 0, .int .i64 0, .int .i64 0, .int .i64 0, .int .i64 0, .slice none 0 0, .bool false, .int .i64 0] 174)
    rw [World.size_alloc] at this
    exact this
  have hE' := (hB.out.cell (p := ⟨ge, 0, none⟩) hlt).trans hE
  generalize (w.alloc (.cells #[.slice (some ⟨ge, 0, none⟩) ne ce, .slice ar nr cr, .slice ac nc cc] 43)).alloc (.cells #[.slice none 0 0, .slice none 0 0, .slice none 0 0, .int .i64 0, .int .i64 0, .int .i64 0, .int .i64 0, .int .i64 0, .int .i64 0, .int .i64 0, .int .i64 0, .int .i64 0, .int .i64 0, .int .i64 0, .int .i64 0, .int .i64 0, .int .i64 0, .int .i64 0, .int .i64 0, .int .i64 0, .int .i64 0, .int .i64 0, .int .i64 0, .int .i64 0, .slice none 0 0, .bool false, .int .i64 0] 174) = W0 at *
  have p0 := blk_cell (j := 0) KP rfl
  have p1 := blk_cell (j := 1) KP rfl
  have p2 := blk_cell (j := 2) KP rfl
  have T1 : Hid ((W0.drew.setRow (w.heap.size + 1) (beginC (.slice (some ⟨ge, 0, none⟩) ne ce) (.slice ar nr cr) (.slice ac nc cc) most depth x)).cell? ⟨w.heap.size, 0, none⟩ = some (.slice (some ⟨ge, 0, none⟩) ne ce) ∧ (W0.drew.setRow (w.heap.size + 1) (beginC (.slice (some ⟨ge, 0, none⟩) ne ce) (.slice ar nr cr) (.slice ac nc cc) most depth x)).cell? ⟨w.heap.size, 1, none⟩ = some (.slice ar nr cr) ∧ (W0.drew.setRow (w.heap.size + 1) (beginC (.slice (some ⟨ge, 0, none⟩) ne ce) (.slice ar nr cr) (.slice ac nc cc) most depth x)).cell? ⟨w.heap.size, 2, none⟩ = some (.slice ac nc cc) ∧ (W0.drew.setRow (w.heap.size + 1) (beginC (.slice (some ⟨ge, 0, none⟩) ne ce) (.slice ar nr cr) (.slice ac nc cc) most depth x)).cell? ⟨ge, 0, none⟩ = some (.int .i64 x)) :=
    ⟨(cell_setRow_other _ _ _ _ n3').trans p0, (cell_setRow_other _ _ _ _ n3').trans p1, (cell_setRow_other _ _ _ _ n3').trans p2, (cell_setRow_other _ _ _ _ n2).trans hE'⟩
  have hB2 : Hid (Below w.heap.size w (W0.drew.setRow (w.heap.size + 1) (beginC (.slice (some ⟨ge, 0, none⟩) ne ce) (.slice ar nr cr) (.slice ac nc cc) most depth x))) := ⟨hB.out.os, hB.out.tape, hB.out.output, by simpa using hB.out.size, fun k hk => by
    rw [setRow_other _ _ _ _ (by omega)]
    exact hB.out.block k hk⟩
  have KF : Hid ((W0.drew.setRow (w.heap.size + 1) (beginC (.slice (some ⟨ge, 0, none⟩) ne ce) (.slice ar nr cr) (.slice ac nc cc) most depth x)).heap[w.heap.size + 1]? = some (.cells (beginC (.slice (some ⟨ge, 0, none⟩) ne ce) (.slice ar nr cr) (.slice ac nc cc) most depth x) 174 (0, 0))) := setRow_heap W0.drew _ _ _ _ _ KR
  clear KP hB hE
  refine wp_region_held_drew (S := fun w' => w'.cell? ⟨w.heap.size, 0, none⟩ = some (.slice (some ⟨ge, 0, none⟩) ne ce) ∧ w'.cell? ⟨w.heap.size, 1, none⟩ = some (.slice ar nr cr) ∧ w'.cell? ⟨w.heap.size, 2, none⟩ = some (.slice ac nc cc) ∧ w'.cell? ⟨ge, 0, none⟩ = some (.int .i64 x)) (by kernel_rfl) ⟨p0, p1, p2, hE'⟩ (fun hHeld => ?_)
  refine wpAnyH_take (i := 0) (oi := { dst := some 7, op := .load 43 (.tmp 3), type := 43, pos := "scan.go:38", after := #[], guard := none }) (v := ?v0) rfl (by kernel_rfl) (by kernel_rfl) (by kernel_rfl) (fun _ _ _ h => h) (Or.inl ⟨by rfl, ?hy0⟩) (by assumption) ?rest0
  case hy0 => (intro w hSw; (try dsimp only at hSw); go_simp; try (with_reducible rfl))
  try simp only [Act.put, List.setIfInBounds_toArray, List.set_cons_zero, List.set_cons_succ]
  refine wpAnyH_take (i := 1) (oi := { dst := some 8, op := .move (.tmp 1), type := 3, pos := "scan.go:38", after := #[], guard := none }) (v := ?v1) rfl (by kernel_rfl) (by kernel_rfl) (by kernel_rfl) (fun _ _ _ h => h) (Or.inl ⟨by rfl, ?hy1⟩) (by assumption) ?rest1
  case hy1 => (intro w hSw; (try dsimp only at hSw); go_simp; try (with_reducible rfl))
  try simp only [Act.put, List.setIfInBounds_toArray, List.set_cons_zero, List.set_cons_succ]
  refine wpAnyH_take (i := 2) (oi := { dst := some 9, op := .move (.tmp 2), type := 3, pos := "scan.go:38", after := #[], guard := none }) (v := ?v2) rfl (by kernel_rfl) (by kernel_rfl) (by kernel_rfl) (fun _ _ _ h => h) (Or.inl ⟨by rfl, ?hy2⟩) (by assumption) ?rest2
  case hy2 => (intro w hSw; (try dsimp only at hSw); go_simp; try (with_reducible rfl))
  try simp only [Act.put, List.setIfInBounds_toArray, List.set_cons_zero, List.set_cons_succ]
  refine wpAnyH_take (i := 3) (oi := { dst := some 10, op := .fieldAddr 43 (.tmp 3) 0, type := 0, pos := "scan.go:38", after := #[], guard := none }) (v := ?v3) rfl (by kernel_rfl) (by kernel_rfl) (by kernel_rfl) (fun _ _ _ h => h) (Or.inl ⟨by rfl, ?hy3⟩) (by assumption) ?rest3
  case hy3 => (intro w hSw; (try dsimp only at hSw); go_simp; try (with_reducible rfl))
  try simp only [Act.put, List.setIfInBounds_toArray, List.set_cons_zero, List.set_cons_succ]
  refine wpAnyH_take (i := 4) (oi := { dst := some 11, op := .load 31 (.tmp 10), type := 31, pos := "scan.go:38", after := #[{ on := 3, ground := .data }], guard := none }) (v := ?v4) rfl (by kernel_rfl) (by kernel_rfl) (by kernel_rfl) (fun _ _ _ h => h) (Or.inl ⟨by rfl, ?hy4⟩) (by assumption) ?rest4
  case hy4 => (intro w hSw; (try dsimp only at hSw); go_simp; try (with_reducible rfl))
  try simp only [Act.put, List.setIfInBounds_toArray, List.set_cons_zero, List.set_cons_succ]
  refine wpAnyH_take (i := 5) (oi := { dst := some 12, op := .indexAddr 31 (.tmp 11) (.const (.int .i64 0)), type := 0, pos := "scan.go:38", after := #[{ on := 4, ground := .data }], guard := none }) (v := ?v5) rfl (by kernel_rfl) (by kernel_rfl) (by kernel_rfl) (fun _ _ _ h => h) (Or.inl ⟨by rfl, ?hy5⟩) (by assumption) ?rest5
  case hy5 => (intro w hSw; (try dsimp only at hSw); go_simp; try (with_reducible rfl))
  try simp only [Act.put, List.setIfInBounds_toArray, List.set_cons_zero, List.set_cons_succ]
  refine wpAnyH_take (i := 6) (oi := { dst := some 13, op := .load 3 (.tmp 12), type := 3, pos := "scan.go:38", after := #[{ on := 5, ground := .data }], guard := none }) (v := ?v6) rfl (by kernel_rfl) (by kernel_rfl) (by kernel_rfl) (fun _ _ _ h => h) (Or.inl ⟨by rfl, ?hy6⟩) (by assumption) ?rest6
  case hy6 => (intro w hSw; (try dsimp only at hSw); go_simp; try (with_reducible rfl))
  try simp only [Act.put, List.setIfInBounds_toArray, List.set_cons_zero, List.set_cons_succ]
  refine wpAnyH_take (i := 7) (oi := { dst := some 14, op := .build 172 #[(0, .tmp 13)], type := 172, pos := "scan.go:38", after := #[{ on := 6, ground := .data }], guard := none }) (v := ?v7) rfl (by kernel_rfl) (by kernel_rfl) (by kernel_rfl) (fun _ _ _ h => h) (Or.inl ⟨by rfl, ?hy7⟩) (by assumption) ?rest7
  case hy7 => (intro w hSw; (try dsimp only at hSw); go_simp; try (with_reducible rfl))
  try simp only [Act.put, List.setIfInBounds_toArray, List.set_cons_zero, List.set_cons_succ]
  refine wpAnyH_ready (rs := [8]) (by kernel_rfl) (by simp) ?_
  refine AllReadyH.cons (o := { dst := some 15, op := .build 174 #[(0, .tmp 7), (1, .tmp 8), (2, .tmp 9), (4, .const (.int .i64 1)), (5, .const (.int .i64 1)), (10, .tmp 14)], type := 174, pos := "scan.go:38", after := #[{ on := 0, ground := .data }, { on := 1, ground := .data }, { on := 2, ground := .data }, { on := 7, ground := .data }], guard := none }) rfl (fun K hK => ?_) AllReadyH.nil
  refine step_build rfl 174 _ rfl (beginC (.slice (some ⟨ge, 0, none⟩) ne ce) (.slice ar nr cr) (.slice ac nc cc) most depth x) (by kernel_rfl) ?_
  refine hK.out _ _ hHeld (fun hHeld2 => ?_)
  clear hK K
  try simp only [Act.put, List.setIfInBounds_toArray, List.set_cons_zero, List.set_cons_succ]
  refine wpAnyH_ready (rs := [9]) (by kernel_rfl) (by simp) ?_
  refine AllReadyH.cons (o := { dst := none, op := .store 174 (.tmp 6) (.tmp 15), type := 0, pos := "scan.go:38", after := #[{ on := 8, ground := .data }, { on := 0, ground := .phase }, { on := 1, ground := .phase }, { on := 2, ground := .phase }, { on := 3, ground := .phase }, { on := 4, ground := .phase }, { on := 5, ground := .phase }, { on := 6, ground := .phase }, { on := 7, ground := .phase }, { on := 8, ground := .phase }], guard := none }) rfl (fun K hK => step_store_row rfl 174 (.tmp 6) (.tmp 15) rfl (w.heap.size + 1) (beginC (.slice (some ⟨ge, 0, none⟩) ne ce) (.slice ar nr cr) (.slice ac nc cc) most depth x) rfl rfl 174 _ KR Tryz.size174 rfl (beginC_ok _ _ _ _ _ _ _ _ _ _ _ _) (hK.out _ _ T1.out (fun _ => ?_))) AllReadyH.nil
  refine wpAnyH_done (by kernel_rfl) ?_ _
  clear T1 hHeld hHeld2 KR p0 p1 p2 hE'
  generalize W0.drew.setRow (w.heap.size + 1) (beginC (.slice (some ⟨ge, 0, none⟩) ne ce) (.slice ar nr cr) (.slice ac nc cc) most depth x) = W1 at *
  go_wp2
  refine bodyPost_ret (v := .agg (beginC (.slice (some ⟨ge, 0, none⟩) ne ce) (.slice ar nr cr) (.slice ac nc cc) most depth x)) ?_ rfl ⟨rfl, hB2.out⟩
  rw [results_cell1 Tryz.results71]
  exact run_loadVar_row W1 (w.heap.size + 1) 174 174 (beginC (.slice (some ⟨ge, 0, none⟩) ne ce) (.slice ar nr cr) (.slice ac nc cc) most depth x) (0, 0) _ KF.out Tryz.underlying174 rfl Tryz.size174

end Go.Proofs.YtmccnmgaoppogaaGreat

namespace Go.Proofs.YtmccnmgaoppogaaGreat
open Go.RowKit

def StartOK (s : ByteArray) (most depth : Int) : Prop := (Form s ∧ Pure.RightP (prgOf s)) ∧ (1 ≤ most ∧ most ≤ 64) ∧ (0 ≤ depth ∧ depth ≤ 8)

/-- what Start gives -/
def RetStart (s : ByteArray) (most depth : Int) (w : World) (e : Ending) (w' : World) : Prop :=
  (StartOK s most depth ∧ ∃ g, e = .returned (.tuple #[.pointer (some ⟨g, 0, none⟩), .int .i64 0]) ∧ w.heap.size ≤ g ∧ Below w.heap.size w w' ∧ Sc w' g (env0 (prgOf s) most depth) (cfg0 (prgOf s))) ∨
  (¬ (Form s ∧ Pure.RightP (prgOf s)) ∧ e = .returned (.tuple #[.pointer none, .int .i64 2]) ∧ Below w.heap.size w w') ∨
  ((Form s ∧ Pure.RightP (prgOf s)) ∧ ¬ ((1 ≤ most ∧ most ≤ 64) ∧ (0 ≤ depth ∧ depth ≤ 8)) ∧ e = .returned (.tuple #[.pointer none, .int .i64 3]) ∧ Below w.heap.size w w')

theorem wpList_build_to {P : Program} {w : World} {ops : Array Oper} {rest : List Oper} {o : Oper} {a : Act} {Q : Exit → Act → World → Prop} (hg : o.guard = none) (t : TypeId) (parts : Array (Nat × Operand)) (ho : o.op = .build t parts)
    (cells : Array Value) (hc : P.built t (parts.map fun (i, x) => (i, a.eval x)).toList = some cells)
    (h : wpList P ops Q rest (a.put o.dst (.agg cells)) w) : wpList P ops Q (o :: rest) a w := by
  refine wpList_build hg t parts ho (by rw [hc]; rfl) ?_
  rw [hc]
  exact h

theorem begin_cells (ve vr vc : Value) (p : Pure.Prg) (most depth : Int) : (beginC ve vr vc most depth (Pure.ig p.ents 0)).toList = runCells ve vr vc (.slice none 0 0) most depth (cfg0 p) false 0 := rfl

set_option maxRecDepth 100000 in
set_option maxHeartbeats 2000000 in
theorem start_any (s : ByteArray) (most depth : Int) (w : World) (hs : s.size ≤ 9223372036854775807) (_rm : Rng most) (_rd : Rng depth) :
    Calls Tryz.prog 34 #[.string s, .int .i64 most, .int .i64 depth] w (RetStart s most depth w) := by
  go_enter Tryz.func34, Tryz.ntmps34
  go_wp2_with fail
  refine (unpack_any s _ hs).mono ?_
  rintro e w1 (⟨hF, hP, ve, vr, vc, rfl, hB1, he, hr, hc⟩ | ⟨hF, rfl, hB1⟩)
  rotate_left
  · have HF := hide hF
    have HB := hide hB1
    clear hF hB1
    go_wp2
    go_ret2
    exact .inr (.inl ⟨HF.out, rfl, HB.out.alloc HB.out.size _⟩)
  · have l1 : (prgOf s).ents.length = nE s := entsOf_len _ _ _
    have l2 : (prgOf s).rules.length = nR s := rulesOf_len _ _ _
    have l3 : (prgOf s).code.length = nC s := codeOf_len _ _ _
    rw [← l1] at he
    rw [← l2] at hr
    rw [← l3] at hc
    have hn1 := hP.1.1
    have hn2 := hP.2.1.1
    have hn3 := hP.2.2.1.1
    obtain ⟨ge, ce, rfl, e1, e2⟩ := own_some he (by omega)
    obtain ⟨gr, cr, rfl, r1, r2⟩ := own_some hr (by omega)
    obtain ⟨gc, cc, rfl, c1, c2⟩ := own_some hc (by omega)
    have HL : Hid (Lists w1 (prgOf s) _ _ _) := ⟨own_mono he (Nat.zero_le _), own_mono hr (Nat.zero_le _), own_mono hc (Nat.zero_le _)⟩
    have cE := own_int he (i := 0) (by omega)
    have HFP := hide (And.intro hF hP)
    have HB := hide hB1
    clear he hr hc hF hP hB1 l1 l2 l3
    by_cases m1 : most < 1
    · have d1 : decide (most < 1) = true := decide_eq_true m1
      go_wp2
      go_ret2
      exact .inr (.inr ⟨HFP.out, fun h => by omega, rfl, HB.out.alloc HB.out.size _⟩)
    by_cases m2 : 64 < most
    · have d1 : decide (most < 1) = false := decide_eq_false m1
      have d2 : decide (64 < most) = true := decide_eq_true m2
      go_wp2
      go_ret2
      exact .inr (.inr ⟨HFP.out, fun h => by omega, rfl, HB.out.alloc HB.out.size _⟩)
    by_cases m3 : depth < 0
    · have d1 : decide (most < 1) = false := decide_eq_false m1
      have d2 : decide (64 < most) = false := decide_eq_false m2
      have d3 : decide (depth < 0) = true := decide_eq_true m3
      go_wp2
      go_ret2
      exact .inr (.inr ⟨HFP.out, fun h => by omega, rfl, HB.out.alloc HB.out.size _⟩)
    by_cases m4 : 8 < depth
    · have d1 : decide (most < 1) = false := decide_eq_false m1
      have d2 : decide (64 < most) = false := decide_eq_false m2
      have d3 : decide (depth < 0) = false := decide_eq_false m3
      have d4 : decide (8 < depth) = true := decide_eq_true m4
      go_wp2
      go_ret2
      exact .inr (.inr ⟨HFP.out, fun h => by omega, rfl, HB.out.alloc HB.out.size _⟩)
    have d1 : decide (most < 1) = false := decide_eq_false m1
    have d2 : decide (64 < most) = false := decide_eq_false m2
    have d3 : decide (depth < 0) = false := decide_eq_false m3
    have d4 : decide (8 < depth) = false := decide_eq_false m4
    have HM : Hid ((1 ≤ most ∧ most ≤ 64) ∧ (0 ≤ depth ∧ depth ≤ 8)) := ⟨⟨by omega, by omega⟩, ⟨by omega, by omega⟩⟩
    have B1 := hide (HB.out.alloc HB.out.size (.cells #[.slice (some ⟨ge, 0, none⟩) (prgOf s).ents.length ce, .slice (some ⟨gr, 0, none⟩) (prgOf s).rules.length cr, .slice (some ⟨gc, 0, none⟩) (prgOf s).code.length cc] 43))
    have BA := hide ((Below.refl w1.heap.size w1).alloc (Nat.le_refl _) (.cells #[.slice (some ⟨ge, 0, none⟩) (prgOf s).ents.length ce, .slice (some ⟨gr, 0, none⟩) (prgOf s).rules.length cr, .slice (some ⟨gc, 0, none⟩) (prgOf s).code.length cc] 43))
    clear m1 m2 m3 m4
    go_wp2_with fail
    refine (begin_any ge ce _ _ cr _ _ cc (prgOf s) most depth _ ((BA.out.cell (p := ⟨ge, 0, none⟩) (World.block_lt_of_cell? w1 ⟨ge, 0, none⟩ cE)).trans cE) (by omega) e1 e2).mono ?_
    rintro e w2 ⟨rfl, hB2⟩
    have B2 := hide (B1.out.trans (hB2.mono (by have := BA.out.size; have := HB.out.size; omega)))
    have L2 := hide ((HL.out.below BA.out).below hB2)
    clear hB2 BA B1 HL HB cE
    go_wp2_with (first | (refine wpList_build_to rfl 177 _ rfl (beginC (.slice (some ⟨ge, 0, none⟩) (prgOf s).ents.length ce) (.slice (some ⟨gr, 0, none⟩) (prgOf s).rules.length cr) (.slice (some ⟨gc, 0, none⟩) (prgOf s).code.length cc) most depth (Pure.ig (prgOf s).ents 0)) (by kernel_rfl) ?_))
    go_ret2
    refine .inl ⟨⟨HFP.out, HM.out⟩, w2.heap.size, rfl, B2.out.size, B2.out.alloc B2.out.size _, ?_⟩
    obtain ⟨f, hf⟩ := good0 HFP.out.2 HM.out.1 HM.out.2
    have hb : Blk (w2.alloc (.cells (beginC (.slice (some ⟨ge, 0, none⟩) (prgOf s).ents.length ce) (.slice (some ⟨gr, 0, none⟩) (prgOf s).rules.length cr) (.slice (some ⟨gc, 0, none⟩) (prgOf s).code.length cc) most depth (Pure.ig (prgOf s).ents 0)) 177)) w2.heap.size 177 (beginC (.slice (some ⟨ge, 0, none⟩) (prgOf s).ents.length ce) (.slice (some ⟨gr, 0, none⟩) (prgOf s).rules.length cr) (.slice (some ⟨gc, 0, none⟩) (prgOf s).code.length cc) most depth (Pure.ig (prgOf s).ents 0)).toList := heap_alloc_new w2 (.cells (beginC (.slice (some ⟨ge, 0, none⟩) (prgOf s).ents.length ce) (.slice (some ⟨gr, 0, none⟩) (prgOf s).rules.length cr) (.slice (some ⟨gc, 0, none⟩) (prgOf s).code.length cc) most depth (Pure.ig (prgOf s).ents 0)) 177)
    rw [begin_cells] at hb
    refine ⟨f, _, _, _, .slice none 0 0, false, fun _ => rfl, ⟨hb, L2.out.below ((Below.refl _ _).alloc (Nat.le_refl _) _)⟩, .inl ⟨?_, rfl⟩, hf, sta0 hf⟩
    unfold heldOf
    rw [if_neg (by show ¬ ((0 : Int) ≠ 0); omega)]
    rfl

end Go.Proofs.YtmccnmgaoppogaaGreat

/-
  The walks: Longest: of two rules the first token is the longest. (weirkeep)
-/
import Derived.Test.YtmccnmgaoppogabO10
namespace Go.Proofs.Ytmccnmgaoppogab
open Go.RowKit

namespace Pure
/-- the image of two rules: each an x and the pattern behind it -/
structure Im2 (rx ry : Re) (str : ByteArray) : Prop where
  str : str = strOfNums (img (compP [lnX rx, lnX ry]))
  right : RightP (compP [lnX rx, lnX ry])
  lx : rx.leaves ≤ 2
  ly : ry.leaves ≤ 2
theorem two_bytes (x y : ByteArray) : bytesN ((⟨#[97, 32, 120, 40]⟩ : ByteArray) ++ x ++ ⟨#[41, 32, 101, 10, 97, 32, 120, 40]⟩ ++ y ++ ⟨#[41, 32, 101]⟩) = lineX (bytesN x) ++ (10 :: lineX (bytesN y)) := by
  rw [bytesN_append, bytesN_append, bytesN_append, bytesN_append]
  unfold lineX
  show ((([97, 32, 120, 40] ++ bytesN x) ++ [41, 32, 101, 10, 97, 32, 120, 40]) ++ bytesN y) ++ [41, 32, 101] = _
  simp
theorem two_size (x y : ByteArray) : ((⟨#[97, 32, 120, 40]⟩ : ByteArray) ++ x ++ ⟨#[41, 32, 101, 10, 97, 32, 120, 40]⟩ ++ y ++ ⟨#[41, 32, 101]⟩).size = 4 + x.size + 8 + y.size + 3 := by
  rw [ByteArray.size_append, ByteArray.size_append, ByteArray.size_append, ByteArray.size_append]
  rfl
theorem lg_pick {rx ry : Re} {u : List Nat} {a b : Int} (ha : Lgst rx u a) (hb : Lgst ry u b) :
    (a = -1 ∧ b = -1 ∧ ∀ i, i ≤ u.length → ¬ M rx (u.take i) ∧ ¬ M ry (u.take i)) ∨
    (∃ i : Nat, a = (i : Int) ∧ b ≤ (i : Int) ∧ i ≤ u.length ∧ M rx (u.take i) ∧ ∀ j, i < j → j ≤ u.length → ¬ M rx (u.take j) ∧ ¬ M ry (u.take j)) ∨
    (∃ i : Nat, b = (i : Int) ∧ a < (i : Int) ∧ i ≤ u.length ∧ (M ry (u.take i) ∧ ¬ M rx (u.take i)) ∧ ∀ j, i < j → j ≤ u.length → ¬ M rx (u.take j) ∧ ¬ M ry (u.take j)) := by
  rcases ha with ⟨rfl, ha⟩ | ⟨i, rfl, hi, mi, ai⟩
  · rcases hb with ⟨rfl, hb⟩ | ⟨j, rfl, hj, mj, aj⟩
    · exact .inl ⟨rfl, rfl, fun i hi => ⟨ha i hi, hb i hi⟩⟩
    · exact .inr (.inr ⟨j, rfl, by omega, hj, ⟨mj, ha j hj⟩, fun l h1 h2 => ⟨ha l h2, aj l h1 h2⟩⟩)
  · rcases hb with ⟨rfl, hb⟩ | ⟨j, rfl, hj, mj, aj⟩
    · exact .inr (.inl ⟨i, rfl, by omega, hi, mi, fun l h1 h2 => ⟨ai l h1 h2, hb l h2⟩⟩)
    · by_cases c : j ≤ i
      · exact .inr (.inl ⟨i, rfl, by omega, hi, mi, fun l h1 h2 => ⟨ai l h1 h2, aj l (by omega) h2⟩⟩)
      · exact .inr (.inr ⟨j, rfl, by omega, hj, ⟨mj, ai j (by omega) hj⟩, fun l h1 h2 => ⟨ai l (by omega) h2, aj l h1 h2⟩⟩)
end Pure

theorem two_image {x y : ByteArray} {bx cy : List Nat} {rx ry : Pure.Re} (PX : Pure.Pc bx rx) (PY : Pure.Pc cy ry) (EX : Pure.bytesN x = bx) (EY : Pure.bytesN y = cy) (w : World) : Calls Try.prog 12 #[.string ((⟨#[97, 32, 120, 40]⟩ : ByteArray) ++ x ++ ⟨#[41, 32, 101, 10, 97, 32, 120, 40]⟩ ++ y ++ ⟨#[41, 32, 101]⟩)] w (fun e w' => ∃ str, e = .returned (.tuple #[.string str, .int .i64 0]) ∧ Below w.heap.size w w' ∧ Pure.Im2 rx ry str) := by
  have sx : x.size ≤ 12 := by rw [← Pure.bytesN_len, EX]; exact PX.len
  have sy : y.size ≤ 12 := by rw [← Pure.bytesN_len, EY]; exact PY.len
  have hb := Pure.two_bytes x y
  have hz := Pure.two_size x y
  rw [EX, EY] at hb
  generalize (⟨#[97, 32, 120, 40]⟩ : ByteArray) ++ x ++ ⟨#[41, 32, 101, 10, 97, 32, 120, 40]⟩ ++ y ++ ⟨#[41, 32, 101]⟩ = t at *
  have LNS := Pure.two_lines PX.one PY.one (s := t) (by rw [← hb]; exact Pure.holds_bytes t)
  have FEW := Pure.two_few PX.leaves PY.leaves
  refine (compile_any t w).mono ?_
  rintro e w2 ⟨en, str, rfl, hb2, hp⟩
  obtain ⟨rfl, es⟩ := hp.zero (by omega) LNS Pure.two_dn Pure.two_em FEW
  exact ⟨str, rfl, hb2, es, Pure.comp_right LNS FEW, PX.leaves, PY.leaves⟩

/-- what is told of a word behind an x -/
def RetTw (rx ry : Pure.Re) (u : List Nat) (w : World) (e : Ending) (w' : World) : Prop := ∃ (D : Pure.Cfg) (vo : Value), e = .returned (.tuple #[vo, .int .i64 D.err]) ∧ Below w.heap.size w w' ∧ w'.ownsRow w.heap.size 38 5 vo D.toks.length (tokCells D.toks) ∧
  ((∀ i, i ≤ u.length → ¬ Pure.M rx (u.take i) ∧ ¬ Pure.M ry (u.take i)) → D.err = 4 ∧ D.toks = []) ∧
  (∀ i, i ≤ u.length → ∀ k : Nat, (k = 0 ∧ Pure.M rx (u.take i)) ∨ (k = 1 ∧ Pure.M ry (u.take i) ∧ ¬ Pure.M rx (u.take i)) → (∀ j, i < j → j ≤ u.length → ¬ Pure.M rx (u.take j) ∧ ¬ Pure.M ry (u.take j)) → ∃ (t : Pure.Tok) (more : List Pure.Tok), D.toks = t :: more ∧ t.rule = (k : Int) ∧ t.pos = 0 ∧ t.len = (i : Int) + 1)
theorem two_told {rx ry : Pure.Re} {im s : ByteArray} (hi : Pure.Im2 rx ry im) (hs : s.size ≤ 30) (w : World) : Calls Try.prog 14 #[.string im, .string (⟨#[120]⟩ ++ s)] w (RetTw rx ry (Pure.bytesN s) w) := by
  rw [hi.str]
  refine (scanned_any _ _ w hi.right (by rw [ByteArray.size_append]; show 1 + s.size ≤ _; omega)).mono ?_
  rintro e w2 ⟨D, vo, hr, rfl, ho, hb⟩
  have h := Pure.two_run (E := ⟨Pure.compP [Pure.lnX rx, Pure.lnX ry], 64, 0, ⟨#[120]⟩ ++ s, true⟩) hi.lx hi.ly rfl rfl rfl (u := Pure.bytesN s) (by have := Pure.holds_bytes ((⟨#[120]⟩ : ByteArray) ++ s); rw [Pure.bytesN_append] at this; exact this) (Pure.bytesN_byt s) (by rw [Pure.bytesN_len]; omega) hr
  exact ⟨D, vo, rfl, hb, ho, h.1, h.2⟩

set_option maxRecDepth 100000 in
set_option maxHeartbeats 8000000 in
theorem Longest_any (k n : Int) (raw : ByteArray) (w : World) (hk : Rng k) (hn : Rng n) : Calls Try.prog 4 #[.int .i64 k, .int .i64 n, .string raw] w (RetVal (.bool true) w) := by
  go_enter Try.func4, Try.ntmps4
  go_wp2_with fail
  refine (little_any k w hk.1 hk.2).mono ?_
  rintro e w1 ⟨x, qx, rfl, hb, hx1, hx2⟩
  have B1 : Hid (Below w.heap.size w w1) := hb
  clear hb
  have PX := hide (Pure.littles_pc qx hx1)
  have EX := hide hx2
  have sx : x.size ≤ 12 := by rw [← Pure.bytesN_len, hx2]; exact PX.out.len
  clear hx1 hx2
  go_wp2_with fail
  refine (little_any n w1 hn.1 hn.2).mono ?_
  rintro e w2 ⟨y, qy, rfl, hb, hy1, hy2⟩
  have B2 : Hid (Below w.heap.size w w2) := bel0 B1.out hb
  clear hb B1
  have PY := hide (Pure.littles_pc qy hy1)
  have EY := hide hy2
  have sy : y.size ≤ 12 := by rw [← Pure.bytesN_len, hy2]; exact PY.out.len
  clear hy1 hy2
  obtain ⟨bx, rx⟩ := qx
  obtain ⟨cy, ry⟩ := qy
  have z1 : ¬ 9223372036854775807 < 4 + x.size := by omega
  have z2 : ¬ 9223372036854775807 < 4 + x.size + 8 := by omega
  have z3 : ¬ 9223372036854775807 < 4 + x.size + 8 + y.size := by omega
  have z4 : ¬ 9223372036854775807 < 4 + x.size + 8 + y.size + 3 := by omega
  go_wp2_with fail
  refine (word_any raw w2).mono ?_
  rintro e w3 ⟨t, rfl, hb, ht⟩
  have B3 : Hid (Below w.heap.size w w3) := bel0 B2.out hb
  clear hb B2
  have z5 : ¬ 9223372036854775807 < 1 + t.size := by omega
  go_wp2_with fail
  refine (image_one PX.out EX.out w3).mono ?_
  rintro e w4 ⟨px, rfl, hb, hpx⟩
  have B4 : Hid (Below w.heap.size w w4) := bel0 B3.out hb
  clear hb B3
  have Ipx := hide hpx
  clear hpx
  go_wp2_with fail
  refine (image_one PY.out EY.out w4).mono ?_
  rintro e w5 ⟨py, rfl, hb, hpy⟩
  have B5 : Hid (Below w.heap.size w w5) := bel0 B4.out hb
  clear hb B4
  have Ipy := hide hpy
  clear hpy
  go_wp2_with fail
  refine (two_image PX.out PY.out EX.out EY.out w5).mono ?_
  rintro e w6 ⟨tw, rfl, hb, htw⟩
  have B6 : Hid (Below w.heap.size w w6) := bel0 B5.out hb
  clear hb B5
  have Itw := hide htw
  clear htw
  go_wp2_with fail
  refine (sound_any w6).mono ?_
  rintro e w7 ⟨rfl, hb⟩
  have B7 : Hid (Below w.heap.size w w7) := bel0 B6.out hb
  clear hb B6
  go_wp2_with fail
  refine (longest_any rx px t w7 Ipx.out (by omega)).mono ?_
  rintro e w8 ⟨lx, rfl, hb, hlx⟩
  have B8 : Hid (Below w.heap.size w w8) := bel0 B7.out hb
  clear hb B7
  have Hlx := hide hlx
  clear hlx
  go_wp2_with fail
  refine (longest_any ry py t w8 Ipy.out (by omega)).mono ?_
  rintro e w9 ⟨ly, rfl, hb, hly⟩
  have B9 : Hid (Below w.heap.size w w9) := bel0 B8.out hb
  clear hb B8
  have Hly := hide hly
  clear hly
  go_wp2_with fail
  refine (two_told Itw.out ht w9).mono ?_
  rintro e w10 ⟨D, vo, rfl, hb, ho, hA, hB⟩
  have B10 : Hid (Below w.heap.size w w10) := bel0 B9.out hb
  clear hb B9
  have HO := hide ho
  obtain ⟨ao, co, evo, -⟩ := own_read ho
  clear ho
  have PK := Pure.lg_pick Hlx.out Hly.out
  clear Hlx Hly EX EY PX PY z1 z2 z3 z4 z5 sx sy Ipx Ipy Itw
  rcases PK with ⟨rfl, rfl, hno⟩ | ⟨i, rfl, hba, hi, hM, hmax⟩ | ⟨i, rfl, hab, hi, hM, hmax⟩
  · obtain ⟨e1, e2⟩ := hA hno
    rw [e1]
    rw [e2] at evo
    have evo' : vo = .slice ao 0 co := evo
    subst evo'
    clear evo hA hB HO e1 e2 hno
    go_wp2
    go_ret
    exact ⟨rfl, B10.out⟩
  · obtain ⟨q, more, e1, e2, e3, e4⟩ := hB i hi 0 (.inl ⟨rfl, hM⟩) hmax
    have HO2 := HO.out
    rw [e1] at HO2
    obtain ⟨go, co', evo2, _, _⟩ := own_some HO2 (by simp)
    rw [Pure.bytesN_len] at hi
    clear evo hA hB HO e1 hmax hM
    subst evo2
    have o0 : w10.cell? ⟨go, 0, none⟩ = some (.int .i64 q.rule) := own_cell (j := 0) HO2 rfl
    have o1 : w10.cell? ⟨go, 1, none⟩ = some (.int .i64 q.pos) := own_cell (j := 1) HO2 rfl
    have o2 : w10.cell? ⟨go, 2, none⟩ = some (.int .i64 q.len) := own_cell (j := 2) HO2 rfl
    rw [e2] at o0
    rw [e3] at o1
    rw [e4] at o2
    clear HO2 e2 e3 e4
    have ml : (q :: more).length = more.length + 1 := rfl
    rw [ml]
    generalize more.length = mn at *
    clear ml
    have wi : IntKind.i64.wrap ((i : Int) + 1) = (i : Int) + 1 := wrap_in _ (by omega) (by omega)
    have d1 : decide ((i : Int) < 0) = false := decide_eq_false (by omega)
    have d2 : decide ((i : Int) < ly) = false := decide_eq_false (by omega)
    go_wp2
    go_ret
    exact ⟨rfl, B10.out⟩
  · obtain ⟨q, more, e1, e2, e3, e4⟩ := hB i hi 1 (.inr ⟨rfl, hM⟩) hmax
    have HO2 := HO.out
    rw [e1] at HO2
    obtain ⟨go, co', evo2, _, _⟩ := own_some HO2 (by simp)
    rw [Pure.bytesN_len] at hi
    clear evo hA hB HO e1 hmax hM
    subst evo2
    have o0 : w10.cell? ⟨go, 0, none⟩ = some (.int .i64 q.rule) := own_cell (j := 0) HO2 rfl
    have o1 : w10.cell? ⟨go, 1, none⟩ = some (.int .i64 q.pos) := own_cell (j := 1) HO2 rfl
    have o2 : w10.cell? ⟨go, 2, none⟩ = some (.int .i64 q.len) := own_cell (j := 2) HO2 rfl
    rw [e2] at o0
    rw [e3] at o1
    rw [e4] at o2
    clear HO2 e2 e3 e4
    have ml : (q :: more).length = more.length + 1 := rfl
    rw [ml]
    generalize more.length = mn at *
    clear ml
    have wi : IntKind.i64.wrap ((i : Int) + 1) = (i : Int) + 1 := wrap_in _ (by omega) (by omega)
    have d2 : decide (lx < (i : Int)) = true := decide_eq_true hab
    have d3 : decide ((i : Int) < 0) = false := decide_eq_false (by omega)
    by_cases c : lx < 0
    · have d1 : decide (lx < 0) = true := decide_eq_true c
      go_wp2
      go_ret
      exact ⟨rfl, B10.out⟩
    · have d1 : decide (lx < 0) = false := decide_eq_false c
      go_wp2
      go_ret
      exact ⟨rfl, B10.out⟩

end Go.Proofs.Ytmccnmgaoppogab

/-
  The walks: Joined: patterns made out of two small ones. (weirkeep)
-/
import Derived.Test.YtmccnmgaoppogabO7
namespace Go.Proofs.Ytmccnmgaoppogab
open Go.RowKit

namespace Pure
section
variable {a b : Re} {u : List Nat}
theorem M_alt : M (.alt a b) u ↔ M a u ∨ M b u := by
  constructor
  · intro h
    cases h with
    | altL h => exact .inl h
    | altR h => exact .inr h
  · rintro (h | h)
    · exact .altL h
    · exact .altR h
theorem M_opt : M (.opt a) u ↔ M a u ∨ u = [] := by
  constructor
  · intro h
    cases h with
    | opt0 => exact .inr rfl
    | optS h => exact .inl h
  · rintro (h | rfl)
    · exact .optS h
    · exact .opt0
theorem spl_of {x y : List Nat} (hx : M a x) (hy : M b y) {k : Nat} (hk : k ≤ x.length) : Spl a b (x ++ y) k :=
  ⟨x.length, hk, by simp, by rw [List.take_left]; exact hx, by rw [List.drop_left]; exact hy⟩
theorem M_and : M (.cat a b) u ↔ Spl a b u 0 := by
  constructor
  · intro h
    obtain ⟨x, y, rfl, h1, h2⟩ := M_cat.1 h
    exact spl_of h1 h2 (Nat.zero_le _)
  · rintro ⟨i, _, _, h1, h2⟩
    exact M_cat.2 ⟨_, _, (List.take_append_drop i u).symm, h1, h2⟩
theorem M_plus : M (.plus a) u ↔ Spl a (.star a) u 0 := by
  constructor
  · intro h
    cases h with
    | plus h1 h2 => exact spl_of h1 h2 (Nat.zero_le _)
  · rintro ⟨i, _, _, h1, h2⟩
    have := M.plus h1 h2
    rwa [List.take_append_drop] at this
theorem star_in {r : Re} (h : M r u) : ∀ a, r = .star a → Spl a (.star a) u 1 ∨ u = [] := by
  induction h with
  | star0 => intro _ _; exact .inr rfl
  | @starS a u v h1 h2 _ ih =>
    intro a' e
    cases e
    by_cases hu : u = []
    · subst hu
      exact ih a rfl
    · exact .inl (spl_of h1 h2 (by cases u with | nil => exact absurd rfl hu | cons _ _ => simp))
  | pl _ => intro _ e; cases e
  | cat _ _ _ _ => intro _ e; cases e
  | altL _ _ => intro _ e; cases e
  | altR _ _ => intro _ e; cases e
  | plus _ _ _ _ => intro _ e; cases e
  | opt0 => intro _ e; cases e
  | optS _ _ => intro _ e; cases e
theorem M_star : M (.star a) u ↔ Spl a (.star a) u 1 ∨ u = [] := by
  constructor
  · exact fun h => star_in h a rfl
  · rintro (⟨i, _, _, h1, h2⟩ | rfl)
    · have := M.starS h1 h2
      rwa [List.take_append_drop] at this
    · exact .star0
end
theorem empty_bytes (t : ByteArray) : t.toList.isEmpty = true ↔ bytesN t = [] := by
  have h1 : bytesN t = [] ↔ t.size = 0 := by
    rw [← bytesN_len]
    exact List.length_eq_zero_iff.symm
  rw [h1]
  have h2 : t.toList.length = t.size := by rw [ByteArray.toList_eq]; exact Array.length_toList
  rw [List.isEmpty_iff, ← List.length_eq_zero_iff, h2]
theorem or_bytes (x y : ByteArray) : bytesN (x ++ ⟨#[124]⟩ ++ y) = bytesN x ++ (124 :: bytesN y) := by
  rw [bytesN_append, bytesN_append, List.append_assoc]
  rfl
theorem or_size (x y : ByteArray) : (x ++ ⟨#[124]⟩ ++ y).size = x.size + 1 + y.size := by
  rw [ByteArray.size_append, ByteArray.size_append]
  rfl
theorem sg_bytes (x : ByteArray) (c : UInt8) : bytesN ((⟨#[40]⟩ : ByteArray) ++ x ++ ⟨#[41, c]⟩) = (40 :: (bytesN x ++ [41])) ++ [c.toNat] := by
  rw [bytesN_append, bytesN_append]
  show (40 :: bytesN x) ++ [41, c.toNat] = _
  simp
theorem sg_size (x : ByteArray) (c : UInt8) : ((⟨#[40]⟩ : ByteArray) ++ x ++ ⟨#[41, c]⟩).size = 1 + x.size + 2 := by
  rw [ByteArray.size_append, ByteArray.size_append]
  rfl
theorem bool_or {p q r : Prop} {x y z : Bool} (hx : x = true ↔ p) (hy : y = true ↔ q) (hz : z = true ↔ r) (h : r ↔ p ∨ q) : z = (x || y) := by
  rw [Bool.eq_iff_iff, hz, Bool.or_eq_true, hx, hy, h]
theorem bool_eq {p q : Prop} {x y : Bool} (hx : x = true ↔ p) (hy : y = true ↔ q) (h : p ↔ q) : x = y := by
  rw [Bool.eq_iff_iff, hx, hy, h]
end Pure

/-- an image comes back -/
def RetIm (r : Pure.Re) (w : World) (e : Ending) (w' : World) : Prop := ∃ str, e = .returned (.tuple #[.string str, .bool true]) ∧ Below w.heap.size w w' ∧ Pure.Im r str
section
variable {x y : ByteArray} {bx cy : List Nat} {rx ry : Pure.Re}
theorem image_one (PX : Pure.Pc bx rx) (EX : Pure.bytesN x = bx) (w : World) : Calls Try.prog 8 #[.string x] w (RetIm rx w) := by
  have sx : x.size ≤ 12 := by rw [← Pure.bytesN_len, EX]; exact PX.len
  have hl := PX.leaves
  refine image_any rx x w ?_ (by omega) (by omega)
  rw [EX]
  exact PX.one
theorem image_or (PX : Pure.Pc bx rx) (PY : Pure.Pc cy ry) (EX : Pure.bytesN x = bx) (EY : Pure.bytesN y = cy) (w : World) : Calls Try.prog 8 #[.string (x ++ ⟨#[124]⟩ ++ y)] w (RetIm (.alt rx ry) w) := by
  have sx : x.size ≤ 12 := by rw [← Pure.bytesN_len, EX]; exact PX.len
  have sy : y.size ≤ 12 := by rw [← Pure.bytesN_len, EY]; exact PY.len
  have hl : rx.leaves ≤ 2 := PX.leaves
  have hl2 : ry.leaves ≤ 2 := PY.leaves
  refine image_any (.alt rx ry) _ w ?_ ?_ ?_
  · rw [Pure.or_bytes, EX, EY]
    exact PX.or PY
  · rw [Pure.or_size]
    omega
  · show rx.leaves + ry.leaves ≤ 4
    omega
theorem image_and (PX : Pure.Pc bx rx) (PY : Pure.Pc cy ry) (EX : Pure.bytesN x = bx) (EY : Pure.bytesN y = cy) (w : World) : Calls Try.prog 8 #[.string (x ++ y)] w (RetIm (.cat rx ry) w) := by
  have sx : x.size ≤ 12 := by rw [← Pure.bytesN_len, EX]; exact PX.len
  have sy : y.size ≤ 12 := by rw [← Pure.bytesN_len, EY]; exact PY.len
  have hl : rx.leaves ≤ 2 := PX.leaves
  have hl2 : ry.leaves ≤ 2 := PY.leaves
  refine image_any (.cat rx ry) _ w ?_ ?_ ?_
  · rw [Pure.bytesN_append, EX, EY]
    exact PX.and PY
  · rw [ByteArray.size_append]
    omega
  · show rx.leaves + ry.leaves ≤ 4
    omega
theorem image_sg (PX : Pure.Pc bx rx) (EX : Pure.bytesN x = bx) (c : UInt8) (r' : Pure.Re) (hc : (c.toNat = 42 ∧ r' = .star rx) ∨ (c.toNat = 43 ∧ r' = .plus rx) ∨ (c.toNat = 63 ∧ r' = .opt rx)) (w : World) : Calls Try.prog 8 #[.string ((⟨#[40]⟩ : ByteArray) ++ x ++ ⟨#[41, c]⟩)] w (RetIm r' w) := by
  have sx : x.size ≤ 12 := by rw [← Pure.bytesN_len, EX]; exact PX.len
  have hl : rx.leaves ≤ 2 := PX.leaves
  refine image_any r' _ w ?_ ?_ ?_
  · rw [Pure.sg_bytes, EX]
    exact PX.signed hc
  · rw [Pure.sg_size]
    omega
  · have : r'.leaves = rx.leaves := by rcases hc with ⟨_, rfl⟩ | ⟨_, rfl⟩ | ⟨_, rfl⟩ <;> rfl
    omega
end

set_option maxRecDepth 100000 in
set_option maxHeartbeats 8000000 in
theorem joined_any (k n : Int) (raw : ByteArray) (w : World) (hk : Rng k) (hn : Rng n) : Calls Try.prog 3 #[.int .i64 k, .int .i64 n, .string raw] w (RetVal (.bool true) w) := by
  go_enter Try.func3, Try.ntmps3
  go_wp2_with fail
  refine (little_any k w hk.1 hk.2).mono ?_
  rintro e w1 ⟨x, qx, rfl, hb, hx1, hx2⟩
  have B1 : Hid (Below w.heap.size w w1) := hb
  clear hb
  have PX := hide (Pure.littles_pc qx hx1)
  have EX := hide hx2
  have sx : x.size ≤ 12 := by rw [← Pure.bytesN_len, hx2]; exact PX.out.len
  clear hx1 hx2
  go_wp2_with fail
  refine (little_any n w1 hn.1 hn.2).mono ?_
  rintro e w2 ⟨y, qy, rfl, hb, hy1, hy2⟩
  have B2 : Hid (Below w.heap.size w w2) := bel0 B1.out hb
  clear hb B1
  have PY := hide (Pure.littles_pc qy hy1)
  have EY := hide hy2
  have sy : y.size ≤ 12 := by rw [← Pure.bytesN_len, hy2]; exact PY.out.len
  clear hy1 hy2
  obtain ⟨bx, rx⟩ := qx
  obtain ⟨by', ry⟩ := qy
  have z1 : ¬ 9223372036854775807 < x.size + 1 := by omega
  have z2 : ¬ 9223372036854775807 < x.size + 1 + y.size := by omega
  have z3 : ¬ 9223372036854775807 < x.size + y.size := by omega
  have z4 : ¬ 9223372036854775807 < 1 + x.size := by omega
  have z5 : ¬ 9223372036854775807 < 1 + x.size + 2 := by omega
  go_wp2_with fail
  refine (word_any raw w2).mono ?_
  rintro e w3 ⟨t, rfl, hb, ht⟩
  have B3 : Hid (Below w.heap.size w w3) := bel0 B2.out hb
  clear hb B2
  go_wp2_with fail
  refine (image_one PX.out EX.out w3).mono ?_
  rintro e w4 ⟨px, rfl, hb, hpx⟩
  have B4 : Hid (Below w.heap.size w w4) := bel0 B3.out hb
  clear hb B3
  have Ipx := hide hpx
  clear hpx
  go_wp2_with fail
  refine (image_one PY.out EY.out w4).mono ?_
  rintro e w5 ⟨py, rfl, hb, hpy⟩
  have B5 : Hid (Below w.heap.size w w5) := bel0 B4.out hb
  clear hb B4
  have Ipy := hide hpy
  clear hpy
  go_wp2_with fail
  refine (image_or PX.out PY.out EX.out EY.out w5).mono ?_
  rintro e w6 ⟨por, rfl, hb, hpor⟩
  have B6 : Hid (Below w.heap.size w w6) := bel0 B5.out hb
  clear hb B5
  have Ipor := hide hpor
  clear hpor
  go_wp2_with fail
  refine (image_and PX.out PY.out EX.out EY.out w6).mono ?_
  rintro e w7 ⟨pand, rfl, hb, hpand⟩
  have B7 : Hid (Below w.heap.size w w7) := bel0 B6.out hb
  clear hb B6
  have Ipand := hide hpand
  clear hpand
  go_wp2_with fail
  refine (image_sg PX.out EX.out 42 (.star rx) (.inl ⟨rfl, rfl⟩) w7).mono ?_
  rintro e w8 ⟨pst, rfl, hb, hpst⟩
  have B8 : Hid (Below w.heap.size w w8) := bel0 B7.out hb
  clear hb B7
  have Ipst := hide hpst
  clear hpst
  go_wp2_with fail
  refine (image_sg PX.out EX.out 43 (.plus rx) (.inr (.inl ⟨rfl, rfl⟩)) w8).mono ?_
  rintro e w9 ⟨ppl, rfl, hb, hppl⟩
  have B9 : Hid (Below w.heap.size w w9) := bel0 B8.out hb
  clear hb B8
  have Ippl := hide hppl
  clear hppl
  go_wp2_with fail
  refine (image_sg PX.out EX.out 63 (.opt rx) (.inr (.inr ⟨rfl, rfl⟩)) w9).mono ?_
  rintro e w10 ⟨pop, rfl, hb, hpop⟩
  have B10 : Hid (Below w.heap.size w w10) := bel0 B9.out hb
  clear hb B9
  have Ipop := hide hpop
  clear hpop
  go_wp2_with fail
  refine (sound_any w10).mono ?_
  rintro e w11 ⟨rfl, hb⟩
  have B11 : Hid (Below w.heap.size w w11) := bel0 B10.out hb
  clear hb B10
  go_wp2_with fail
  refine (takes_any rx px t w11 Ipx.out (by omega)).mono ?_
  rintro e w12 ⟨tx, rfl, hb, htx⟩
  have B12 : Hid (Below w.heap.size w w12) := bel0 B11.out hb
  clear hb B11
  have Htx := hide htx
  clear htx
  go_wp2_with fail
  refine (takes_any ry py t w12 Ipy.out (by omega)).mono ?_
  rintro e w13 ⟨ty, rfl, hb, hty⟩
  have B13 : Hid (Below w.heap.size w w13) := bel0 B12.out hb
  clear hb B12
  have Hty := hide hty
  clear hty
  go_wp2_with fail
  refine (takes_any (.alt rx ry) por t w13 Ipor.out (by omega)).mono ?_
  rintro e w14 ⟨tor, rfl, hb, htor⟩
  have B14 : Hid (Below w.heap.size w w14) := bel0 B13.out hb
  clear hb B13
  have Htor := hide htor
  clear htor
  go_wp2_with fail
  refine (takes_any (.cat rx ry) pand t w14 Ipand.out (by omega)).mono ?_
  rintro e w15 ⟨tand, rfl, hb, htand⟩
  have B15 : Hid (Below w.heap.size w w15) := bel0 B14.out hb
  clear hb B14
  have Htand := hide htand
  clear htand
  go_wp2_with fail
  refine (takes_any (.opt rx) pop t w15 Ipop.out (by omega)).mono ?_
  rintro e w16 ⟨topt, rfl, hb, htopt⟩
  have B16 : Hid (Below w.heap.size w w16) := bel0 B15.out hb
  clear hb B15
  have Htopt := hide htopt
  clear htopt
  have eor : tor = (tx || ty) := Pure.bool_or Htx.out Hty.out Htor.out Pure.M_alt
  obtain ⟨we, hwe⟩ : ∃ we, t.toList.isEmpty = we := ⟨_, rfl⟩
  have HWE : Hid (we = true ↔ Pure.bytesN t = []) := by rw [← hwe]; exact Pure.empty_bytes t
  have eop : topt = (tx || we) := Pure.bool_or Htx.out HWE.out Htopt.out Pure.M_opt
  subst eor
  subst eop
  clear Htx Hty Htor Htopt EX EY PX PY z1 z2 z3 z4 z5 sx sy Ipor Ipand Ipop
  cases tx
  · go_wp2_with fail
    refine (split_any rx ry px py t 0 w16 Ipx.out Ipy.out ht (by omega)).mono ?_
    rintro e w17 ⟨bo, rfl, hb, hbo⟩
    have B17 : Hid (Below w.heap.size w w17) := bel0 B16.out hb
    clear hb B16
    have Hbo := hide hbo
    clear hbo
    go_wp2_with fail
    refine (split_any rx (.star rx) px pst t 1 w17 Ipx.out Ipst.out ht (by omega)).mono ?_
    rintro e w18 ⟨mo, rfl, hb, hmo⟩
    have B18 : Hid (Below w.heap.size w w18) := bel0 B17.out hb
    clear hb B17
    have Hmo := hide hmo
    clear hmo
    go_wp2_with fail
    refine (split_any rx (.star rx) px pst t 0 w18 Ipx.out Ipst.out ht (by omega)).mono ?_
    rintro e w19 ⟨on, rfl, hb, hon⟩
    have B19 : Hid (Below w.heap.size w w19) := bel0 B18.out hb
    clear hb B18
    have Hon := hide hon
    clear hon
    go_wp2_with fail
    refine (takes_any (.star rx) pst t w19 Ipst.out (by omega)).mono ?_
    rintro e w20 ⟨ts, rfl, hb, hts⟩
    have B20 : Hid (Below w.heap.size w w20) := bel0 B19.out hb
    clear hb B19
    have Hts := hide hts
    clear hts
    go_wp2_with fail
    refine (takes_any (.plus rx) ppl t w20 Ippl.out (by omega)).mono ?_
    rintro e w21 ⟨tp, rfl, hb, htp⟩
    have B21 : Hid (Below w.heap.size w w21) := bel0 B20.out hb
    clear hb B20
    have Htp := hide htp
    clear htp
    have e1 : tand = bo := Pure.bool_eq Htand.out Hbo.out Pure.M_and
    have e2 : ts = (mo || we) := Pure.bool_or Hmo.out HWE.out Hts.out Pure.M_star
    have e3 : tp = on := Pure.bool_eq Htp.out Hon.out Pure.M_plus
    subst e1
    subst e2
    subst e3
    clear Htand Hbo Hmo HWE Hts Htp Hon Ipx Ipy Ipst Ippl ht
    cases mo
    · go_wp2
      go_ret
      exact ⟨rfl, B21.out⟩
    · go_wp2
      go_ret
      exact ⟨rfl, B21.out⟩
  · go_wp2_with fail
    refine (split_any rx ry px py t 0 w16 Ipx.out Ipy.out ht (by omega)).mono ?_
    rintro e w17 ⟨bo, rfl, hb, hbo⟩
    have B17 : Hid (Below w.heap.size w w17) := bel0 B16.out hb
    clear hb B16
    have Hbo := hide hbo
    clear hbo
    go_wp2_with fail
    refine (split_any rx (.star rx) px pst t 1 w17 Ipx.out Ipst.out ht (by omega)).mono ?_
    rintro e w18 ⟨mo, rfl, hb, hmo⟩
    have B18 : Hid (Below w.heap.size w w18) := bel0 B17.out hb
    clear hb B17
    have Hmo := hide hmo
    clear hmo
    go_wp2_with fail
    refine (split_any rx (.star rx) px pst t 0 w18 Ipx.out Ipst.out ht (by omega)).mono ?_
    rintro e w19 ⟨on, rfl, hb, hon⟩
    have B19 : Hid (Below w.heap.size w w19) := bel0 B18.out hb
    clear hb B18
    have Hon := hide hon
    clear hon
    go_wp2_with fail
    refine (takes_any (.star rx) pst t w19 Ipst.out (by omega)).mono ?_
    rintro e w20 ⟨ts, rfl, hb, hts⟩
    have B20 : Hid (Below w.heap.size w w20) := bel0 B19.out hb
    clear hb B19
    have Hts := hide hts
    clear hts
    go_wp2_with fail
    refine (takes_any (.plus rx) ppl t w20 Ippl.out (by omega)).mono ?_
    rintro e w21 ⟨tp, rfl, hb, htp⟩
    have B21 : Hid (Below w.heap.size w w21) := bel0 B20.out hb
    clear hb B20
    have Htp := hide htp
    clear htp
    have e1 : tand = bo := Pure.bool_eq Htand.out Hbo.out Pure.M_and
    have e2 : ts = (mo || we) := Pure.bool_or Hmo.out HWE.out Hts.out Pure.M_star
    have e3 : tp = on := Pure.bool_eq Htp.out Hon.out Pure.M_plus
    subst e1
    subst e2
    subst e3
    clear Htand Hbo Hmo HWE Hts Htp Hon Ipx Ipy Ipst Ippl ht
    cases mo
    · go_wp2
      go_ret
      exact ⟨rfl, B21.out⟩
    · go_wp2
      go_ret
      exact ⟨rfl, B21.out⟩

end Go.Proofs.Ytmccnmgaoppogab

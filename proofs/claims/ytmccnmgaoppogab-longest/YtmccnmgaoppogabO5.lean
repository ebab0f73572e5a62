/-
  The walks: images of small patterns, and what they take. (weirkeep)
-/
import Derived.Test.YtmccnmgaoppogabO4
import Derived.Test.YtmccnmgaoppogabN4
import Derived.Test.YtmccnmgaoppogabQS
import Derived.Test.YtmccnmgaoppogabJC
namespace Go.Proofs.Ytmccnmgaoppogab
open Go.RowKit

namespace Pure
def bytesN (s : ByteArray) : List Nat := s.data.toList.map UInt8.toNat
theorem bytesN_len (s : ByteArray) : (bytesN s).length = s.size := by
  unfold bytesN
  rw [List.length_map, Array.length_toList]
  rfl
theorem bytesN_get (s : ByteArray) (i x : Nat) (h : (bytesN s)[i]? = some x) : bt s i = (x : Int) := by
  unfold bytesN at h
  rw [List.getElem?_map] at h
  unfold bt
  rw [List.getD_eq_getElem?_getD]
  cases hb : s.data.toList[i]? with
  | none => rw [hb] at h; cases h
  | some b =>
    rw [hb] at h
    have : b.toNat = x := by simpa using h
    rw [← this]
    rfl
theorem holds_bytes (s : ByteArray) : Holds s (bytesN s) := ⟨(bytesN_len s).symm, bytesN_get s⟩
theorem bytesN_append (a b : ByteArray) : bytesN (a ++ b) = bytesN a ++ bytesN b := by simp [bytesN]
theorem bytesN_byt (s : ByteArray) : Byt (bytesN s) := fun c hc => by
  obtain ⟨b, _, rfl⟩ := List.mem_map.1 hc
  exact UInt8.toNat_lt b

/-- the image of a rule: an x and the pattern behind it -/
structure Im (r : Re) (str : ByteArray) : Prop where
  str : str = strOfNums (img (compP [lnX r]))
  right : RightP (compP [lnX r])
  leaves : r.leaves ≤ 4
end Pure

/-- a truth value comes back -/
def RetBq (q : Prop) (w : World) (e : Ending) (w' : World) : Prop := ∃ b : Bool, e = .returned (.bool b) ∧ Below w.heap.size w w' ∧ (b = true ↔ q)

set_option maxRecDepth 100000 in
set_option maxHeartbeats 4000000 in
theorem takes_any (r : Pure.Re) (im s : ByteArray) (w : World) (hi : Pure.Im r im) (hs : s.size ≤ 60) : Calls Try.prog 10 #[.string im, .string s] w (RetBq (Pure.M r (Pure.bytesN s)) w) := by
  have sz : ¬ 9223372036854775807 < 1 + s.size := by omega
  have CALL : Hid (Calls Try.prog 14 #[.string im, .string (⟨#[120]⟩ ++ s)] w (RetScn (Pure.compP [Pure.lnX r]) (⟨#[120]⟩ ++ s) w)) := by
    show Calls _ _ _ _ _
    rw [hi.str]
    exact scanned_any _ _ w hi.right (by rw [ByteArray.size_append]; show 1 + s.size ≤ _; omega)
  have RUN : Hid (∀ D, Pure.Runs ⟨Pure.compP [Pure.lnX r], 64, 0, ⟨#[120]⟩ ++ s, true⟩ (cfg0 (Pure.compP [Pure.lnX r])) D → _) := fun D h => Pure.takes_run (E := ⟨Pure.compP [Pure.lnX r], 64, 0, ⟨#[120]⟩ ++ s, true⟩) hi.leaves rfl rfl rfl (u := Pure.bytesN s) (by have := Pure.holds_bytes ((⟨#[120]⟩ : ByteArray) ++ s); rw [Pure.bytesN_append] at this; exact this) (Pure.bytesN_byt s) (by rw [Pure.bytesN_len]; exact hs) h
  have wi : IntKind.i64.wrap ((s.size : Int) + 1) = (s.size : Int) + 1 := wrap_in _ (by omega) (by omega)
  clear hi
  go_enter Try.func10, Try.ntmps10
  go_wp2_with fail
  refine CALL.out.mono ?_
  clear CALL
  rintro e w2 ⟨D, vo, hr, rfl, ho, hb⟩
  have hc := RUN.out D hr
  rw [Pure.bytesN_len] at hc
  have B2 := hide hb
  have HO := hide ho
  obtain ⟨ao, co, evo, -⟩ := own_read ho
  clear hr ho hb RUN
  by_cases hM : Pure.M r (Pure.bytesN s)
  · obtain ⟨he, t, ht, hp, hl⟩ := hc.1 hM
    rw [ht] at HO
    obtain ⟨go, co', eo2, _, _⟩ := own_some HO.out (by simp)
    clear evo
    subst eo2
    have o1 : w2.cell? ⟨go, 1, none⟩ = some (.int .i64 t.pos) := own_cell (j := 1) HO.out rfl
    have o2 : w2.cell? ⟨go, 2, none⟩ = some (.int .i64 t.len) := own_cell (j := 2) HO.out rfl
    rw [hp] at o1
    rw [hl] at o2
    rw [he]
    have FIN : Hid (RetBq (Pure.M r (Pure.bytesN s)) w (.returned (.bool true)) w2) := ⟨true, rfl, B2.out, by simp [hM]⟩
    clear hc hM he ht hp hl HO B2
    go_wp2
    go_ret
    exact FIN.out
  · have FIN : Hid (RetBq (Pure.M r (Pure.bytesN s)) w (.returned (.bool false)) w2) := ⟨false, rfl, B2.out, by simp [hM]⟩
    have hc2 := hc.2 hM
    clear hc hM B2
    by_cases he : D.err = 0
    · rcases hc2 with h | h | ⟨t, ht, hl⟩
      · exact absurd he h
      · have q1 : ((D.toks.length : Int) == 1) = false := by simp; omega
        have q2 : ¬ (D.toks.length : Int) = 1 := by omega
        rw [he]
        subst evo
        clear he HO
        go_wp2
        go_ret
        exact FIN.out
      · rw [ht] at HO
        obtain ⟨go, co', eo2, _, _⟩ := own_some HO.out (by simp)
        clear evo
        subst eo2
        have o1 : w2.cell? ⟨go, 1, none⟩ = some (.int .i64 t.pos) := own_cell (j := 1) HO.out rfl
        have o2 : w2.cell? ⟨go, 2, none⟩ = some (.int .i64 t.len) := own_cell (j := 2) HO.out rfl
        have q1 : (t.len == (s.size : Int) + 1) = false := by simpa using hl
        rw [he]
        clear he ht HO
        by_cases hp : t.pos = 0
        · rw [hp] at o1
          clear hp
          go_wp2
          go_ret
          exact FIN.out
        · have q2 : (t.pos == 0) = false := by simpa using hp
          go_wp2
          go_ret
          exact FIN.out
    · have q1 : (D.err == 0) = false := by simpa using he
      subst evo
      clear hc2 HO
      go_wp2
      go_ret
      exact FIN.out

set_option maxRecDepth 100000 in
set_option maxHeartbeats 4000000 in
theorem image_any (r : Pure.Re) (s : ByteArray) (w : World) (hx : Pure.PL .pa (Pure.bytesN s) 41 r) (hs : s.size ≤ 100) (hl : r.leaves ≤ 4) : Calls Try.prog 8 #[.string s] w (fun e w' => ∃ str, e = .returned (.tuple #[.string str, .bool true]) ∧ Below w.heap.size w w' ∧ Pure.Im r str) := by
  have sz1 : ¬ 9223372036854775807 < 4 + s.size := by omega
  have sz2 : ¬ 9223372036854775807 < 4 + s.size + 3 := by omega
  have hb : Pure.bytesN ((⟨#[97, 32, 120, 40]⟩ : ByteArray) ++ s ++ ⟨#[41, 32, 101]⟩) = Pure.lineX (Pure.bytesN s) := by
    rw [Pure.bytesN_append, Pure.bytesN_append]
    unfold Pure.lineX
    show ([97, 32, 120, 40] ++ Pure.bytesN s) ++ [41, 32, 101] = _
    simp
  have LNS : Hid (Pure.Lns ((⟨#[97, 32, 120, 40]⟩ : ByteArray) ++ s ++ ⟨#[41, 32, 101]⟩) 0 [] [Pure.lnX r]) := Pure.one_line hx (by have := Pure.holds_bytes ((⟨#[97, 32, 120, 40]⟩ : ByteArray) ++ s ++ ⟨#[41, 32, 101]⟩); rwa [hb] at this)
  have TS : Hid (((⟨#[97, 32, 120, 40]⟩ : ByteArray) ++ s ++ ⟨#[41, 32, 101]⟩).size ≤ 300) := by
    show _ ≤ _
    rw [ByteArray.size_append, ByteArray.size_append]
    show 4 + s.size + 3 ≤ 300
    omega
  have FEW := hide (Pure.oneX_few hl)
  clear hb hx
  go_enter Try.func8, Try.ntmps8
  go_wp2_with fail
  generalize ((⟨#[97, 32, 120, 40]⟩ : ByteArray) ++ s ++ ⟨#[41, 32, 101]⟩) = t at *
  refine (compile_any t w).mono ?_
  rintro e w2 ⟨en, str, rfl, hb2, hp⟩
  obtain ⟨e0, es⟩ := hp.zero TS.out LNS.out (Pure.oneX_dn r) (Pure.oneX_em r) FEW.out
  subst e0
  have IM : Hid (Pure.Im r str) := ⟨es, Pure.comp_right LNS.out FEW.out, hl⟩
  have B2 := hide hb2
  clear hb2 hp es LNS FEW TS
  go_wp2
  go_ret2
  exact ⟨str, rfl, B2.out, IM.out⟩

end Go.Proofs.Ytmccnmgaoppogab

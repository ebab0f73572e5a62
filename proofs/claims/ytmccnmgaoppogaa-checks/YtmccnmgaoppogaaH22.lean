/-
  The walks: a byte of each kind. (weirref)
-/
import Derived.Test.YtmccnmgaoppogaaH18
import Derived.Test.YtmccnmgaoppogaaG4
namespace Go.Proofs.Ytmccnmgaoppogaa
open Go.RowKit

namespace Pure
theorem repsN_lt (ns : List Nd) : ∀ c, ∀ d ∈ repsN ns c, d < c := by
  intro c
  induction c with
  | zero => intro d hd; simp [repsN] at hd
  | succ c ih =>
    intro d hd
    unfold repsN at hd
    split at hd
    · have := ih d hd; omega
    · rcases List.mem_append.1 hd with k | k
      · have := ih d k; omega
      · simp at k; omega
theorem repsN_len (ns : List Nd) : ∀ c, (repsN ns c).length ≤ c := by
  intro c
  induction c with
  | zero => simp [repsN]
  | succ c ih =>
    rw [repsN_succ]
    split
    · omega
    · simp; omega
theorem repsN_pos (ns : List Nd) : ∀ c, 0 < c → 0 < (repsN ns c).length := by
  intro c
  induction c with
  | zero => intro h; omega
  | succ c ih =>
    intro _
    rw [repsN_succ]
    split
    · rename_i h
      by_cases e : c = 0
      · subst e; simp [oldN, repsN] at h
      · exact ih (by omega)
    · simp
theorem oldN_take {ns : List Nd} {R : List Nat} {k c : Nat} (h : oldN ns (R.take k) c = true) : oldN ns R c = true := by
  unfold oldN at *
  rw [List.any_eq_true] at *
  obtain ⟨d, hd, e⟩ := h
  exact ⟨d, List.mem_of_mem_take hd, e⟩
theorem oldN_next {ns : List Nd} {R : List Nat} {k c d : Nat} (hk : R[k]? = some d) (h : oldN ns (R.take k) c = false) : oldN ns (R.take (k + 1)) c = sameN ns c d := by
  rw [List.take_add_one, hk]
  unfold oldN at *
  rw [List.any_append, h]
  simp
theorem sameN_take {ns : List Nd} {n c d : Nat} (h : sameN (ns.take n) c d = false) : sameN ns c d = false := by
  unfold sameN at *
  rw [List.all_eq_false] at *
  obtain ⟨x, hx, e⟩ := h
  exact ⟨x, List.mem_of_mem_take hx, e⟩
theorem sameN_next {ns : List Nd} {n c d : Nat} {x : Nd} (hk : ns[n]? = some x) (h : sameN (ns.take n) c d = true) : sameN (ns.take (n + 1)) c d = (decide (x.kind ≠ 1) || decide (x.inn c = x.inn d)) := by
  rw [List.take_add_one, hk]
  unfold sameN at *
  rw [List.all_append, h]
  simp
end Pure

theorem own_drewM {w : World} {base e size n : Nat} {v : Value} {xs : List Value} (h : w.ownsRow base e size v n xs) (m : Nat) : (w.drewN m).ownsRow base e size v n xs := h
theorem Dr.cell {B g i : Nat} {s : ByteArray} {ns : List Pure.Nd} {al : Option Addr} {m cap : Nat} {vl : Value} {modes down : Int} {W : World} (h : Dr B g s i ns (.slice al m cap) vl modes down W) {p : Nat} {x : Pure.Nd} (hp : ns[p]? = some x) :
    ∃ gn, al = some ⟨gn, 0, none⟩ ∧ m = ns.length ∧ W.cell? ⟨gn, p * 259, none⟩ = some (.int .i64 (x.kind : Int)) ∧ ∀ c, c < 256 → W.cell? ⟨gn, p * 259 + 3 + c, none⟩ = some (.bool (x.inn c)) := by
  obtain ⟨gn, cap', e, hr⟩ := h.get hp
  cases e
  have h0 : W.cell? ⟨gn, p * 259 + 0, none⟩ = some (.int .i64 (x.kind : Int)) := hr 0 (.int .i64 (x.kind : Int)) (by show (_ :: _)[0]? = _; rw [List.getElem?_cons_zero])
  rw [Nat.add_zero] at h0
  refine ⟨gn, rfl, rfl, h0, fun c hc => ?_⟩
  have := hr (3 + c) (.bool (x.inn c)) (by
    unfold ndC1
    rw [show 3 + c = c + 1 + 1 + 1 by omega, List.getElem?_cons_succ, List.getElem?_cons_succ, List.getElem?_cons_succ]
    exact bitsL_get _ hc)
  rwa [← Nat.add_assoc] at this

set_option maxRecDepth 100000 in
set_option maxHeartbeats 4000000 in
theorem bytesOf_any (B g i : Nat) (s : ByteArray) (ns : List Pure.Nd) (vn vl : Value) (modes down : Int) (_hn : ns.length ≤ 100000) (w : World) (hd : Dr B g s i ns vn vl modes down w) :
    Calls Try.prog 106 #[.pointer (some ⟨g, 0, none⟩)] w (RetNs (Pure.repsN ns 256) w) := by
  obtain ⟨an, cn, rfl, _, _⟩ := own_fm hd.own
  have HD := hide hd
  clear hd
  go_enter Try.func106, Try.ntmps106
  go_wp2_with fail
  go_loopg [3, 4, 5, 6, 7, 8] 256 (fun gk ov cv _ _ _ _ wx => ∃ (c : Nat), c ≤ 256 ∧ gk = 256 - c ∧ cv = .int .i64 c ∧ Below w.heap.size w wx ∧ wx.ownsRow w.heap.size 3 1 ov (Pure.repsN ns c).length (natCells (Pure.repsN ns c)))
  case atStart => exact ⟨0, Nat.zero_le _, rfl, rfl, Below.refl _ _, own_nil _ _ _ _⟩
  case round =>
    obtain ⟨c, cl, rfl, rfl, hb, ho⟩ := hrel
    have HB := hide hb
    have HO := hide ho
    obtain ⟨ar, cr, rfl, _, _⟩ := own_fm ho
    have rl := Pure.repsN_len ns c
    have RLT := hide (Pure.repsN_lt ns c)
    clear hb ho
    generalize hR : Pure.repsN ns c = R at *
    have HR := hide hR
    clear hR
    by_cases hc : c < 256
    · have d1 : decide ((c : Int) < 256) = true := decide_eq_true (by omega)
      have wc : IntKind.i64.wrap ((c : Int) + 1) = (c : Int) + 1 := wrap_in _ (by omega) (by omega)
      have ic0 : (0 : Int) ≤ (c : Int) := by omega
      have ic1 : (c : Int) < 256 := by omega
      go_wp2_with fail
      go_loopg [5, 6, 7, 8] R.length (fun gk oldv kv _ _ wx => ∃ (k : Nat), k ≤ R.length ∧ gk = R.length - k ∧ kv = .int .i64 k ∧ oldv = .bool (Pure.oldN ns (R.take k) c) ∧ Below w.heap.size w wx ∧ wx.ownsRow w.heap.size 3 1 (.slice ar R.length cr) R.length (natCells R))
      case atStart => exact ⟨0, Nat.zero_le _, rfl, rfl, rfl, HB.out, HO.out⟩
      case round =>
        clear HB HO
        obtain ⟨k, kl, rfl, rfl, rfl, hb, ho⟩ := hrel
        have HB2 := hide hb
        have HO2 := hide ho
        clear hb ho
        by_cases hk : k < R.length
        · have d2 : decide ((k : Int) < (R.length : Int)) = true := decide_eq_true (by omega)
          have wk : IntKind.i64.wrap ((k : Int) + 1) = (k : Int) + 1 := wrap_in _ (by omega) (by omega)
          have ik0 : (0 : Int) ≤ (k : Int) := by omega
          have ik1 : (k : Int) < (R.length : Int) := by omega
          cases ek : Pure.oldN ns (R.take k) c with
          | true =>
            have eo := Pure.oldN_take ek
            clear ek
            have RN : Hid (Pure.repsN ns (c + 1) = R) := by
              show _ = _
              rw [Pure.repsN_succ, HR.out, if_pos eo]
            clear eo HR
            go_wp2
            go_roundg (256 - (c + 1))
            case measure => omega
            case rel => exact ⟨c + 1, by omega, rfl, by go_num, HB2.out, by rw [RN.out]; exact HO2.out⟩
          | false =>
            obtain ⟨d, hd⟩ : ∃ d, R[k]? = some d := ⟨_, List.getElem?_eq_getElem hk⟩
            have hdl : d < 256 := by have := RLT.out d (List.mem_of_getElem? hd); omega
            have id0 : (0 : Int) ≤ (d : Int) := by omega
            have id1 : (d : Int) < 256 := by omega
            have NX := hide (Pure.oldN_next hd ek)
            have ND := hide hd
            clear ek hd
            go_wp2_with fail
            go_loopg [7, 8] ns.length (fun gk sv nv wx => ∃ (n : Nat), n ≤ ns.length ∧ gk = ns.length - n ∧ nv = .int .i64 n ∧ sv = .bool (Pure.sameN (ns.take n) c d) ∧ Below w.heap.size w wx ∧ wx.ownsRow w.heap.size 3 1 (.slice ar R.length cr) R.length (natCells R))
            case atStart => exact ⟨0, Nat.zero_le _, rfl, rfl, rfl, HB2.out, HO2.out⟩
            case round =>
              clear HB2 HO2
              obtain ⟨n, nl, rfl, rfl, rfl, hb, ho⟩ := hrel
              have HB2 := hide hb
              have HO2 := hide ho
              have D2 := HD.out.below hb
              have c1 := blk_cell (j := 1) D2.rb rfl
              by_cases hlt : n < ns.length
              · have d3 : decide ((n : Int) < (ns.length : Int)) = true := decide_eq_true (by omega)
                cases es : Pure.sameN (ns.take n) c d with
                | false =>
                  have RE : Hid (Pure.oldN ns (R.take (k + 1)) c = false) := NX.out.trans (Pure.sameN_take es)
                  clear es hb ho D2
                  go_wp2
                  go_roundg (R.length - (k + 1))
                  case measure => omega
                  case rel => exact ⟨k + 1, by omega, rfl, by go_num, by rw [RE.out], HB2.out, HO2.out⟩
                | true =>
                  obtain ⟨x, hx⟩ : ∃ x, ns[n]? = some x := ⟨_, List.getElem?_eq_getElem hlt⟩
                  have SN := hide (Pure.sameN_next hx es)
                  obtain ⟨gn, e1, _, y0, yc⟩ := D2.cell hx
                  subst e1
                  have y1 := yc c hc
                  have y2 := yc d hdl
                  obtain ⟨gr, cr', er, _, _⟩ := own_some ho (by omega)
                  cases er
                  have rk := own_cell ho (natCells_get ND.out)
                  have in0 : (0 : Int) ≤ (n : Int) := by omega
                  have in1 : (n : Int) < (ns.length : Int) := by omega
                  have wn : IntKind.i64.wrap ((n : Int) + 1) = (n : Int) + 1 := wrap_in _ (by omega) (by omega)
                  clear es hb ho D2 yc hx
                  have e2 : decide ((x.kind : Int) = 1) = decide (x.kind = 1) := by rw [decide_eq_decide]; omega
                  by_cases ek : x.kind = 1
                  · have ek' : (x.kind : Int) = 1 := by omega
                    rw [ek'] at y0
                    have SN2 : Hid (Pure.sameN (ns.take (n + 1)) c d = decide (x.inn c = x.inn d)) := SN.out.trans (by rw [decide_eq_false (by simp [ek]), Bool.false_or])
                    clear SN ek ek' e2
                    generalize x.inn c = b1 at *
                    generalize x.inn d = b2 at *
                    go_wp2_with fail
                    go_quiet (fail)
                    have dn := hide (below_drewN HB2.out nq)
                    have on := hide (own_drewM HO2.out nq)
                    have EQ : Hid ((b1 == b2) = Pure.sameN (ns.take (n + 1)) c d) := by rw [SN2.out]; cases b1 <;> cases b2 <;> rfl
                    clear SN2
                    go_wp2
                    go_roundg (ns.length - (n + 1))
                    case measure => omega
                    case rel => exact ⟨n + 1, by omega, rfl, by go_num, by rw [← EQ.out], dn.out, on.out⟩
                  · have ek' : decide ((x.kind : Int) = 1) = false := decide_eq_false (by omega)
                    have SN2 : Hid (Pure.sameN (ns.take (n + 1)) c d = true) := SN.out.trans (by rw [decide_eq_true (by simpa using ek), Bool.true_or])
                    have ek2 : ((x.kind : Int) == 1) = false := by simp; omega
                    have ek3 : ((x.kind : Int) != 1) = true := by simp; omega
                    have ek4 : decide ((x.kind : Int) ≠ 1) = true := decide_eq_true (by omega)
                    clear SN ek e2
                    generalize (x.kind : Int) = kv at *
                    go_wp2_with fail
                    go_quiet (fail)
                    have dn := hide (below_drewN HB2.out nq)
                    have on := hide (own_drewM HO2.out nq)
                    go_wp2
                    go_roundg (ns.length - (n + 1))
                    case measure => omega
                    case rel => exact ⟨n + 1, by omega, rfl, by go_num, by rw [SN2.out], dn.out, on.out⟩
              · have d3 : decide ((n : Int) < (ns.length : Int)) = false := decide_eq_false (by omega)
                have e : n = ns.length := by omega
                subst e
                have RE : Hid (Pure.oldN ns (R.take (k + 1)) c = Pure.sameN (ns.take ns.length) c d) := by rw [List.take_length]; exact NX.out
                clear hb ho D2
                go_wp2
                go_roundg (R.length - (k + 1))
                case measure => omega
                case rel => exact ⟨k + 1, by omega, rfl, by go_num, by rw [RE.out], HB2.out, HO2.out⟩
        · have d2 : decide ((k : Int) < (R.length : Int)) = false := decide_eq_false (by omega)
          have e : k = R.length := by omega
          subst e
          rw [List.take_length]
          cases eo : Pure.oldN ns R c with
          | true =>
            skip
            have RN : Hid (Pure.repsN ns (c + 1) = R) := by
              show _ = _
              rw [Pure.repsN_succ, HR.out, if_pos eo]
            clear eo HR
            go_wp2
            go_roundg (256 - (c + 1))
            case measure => omega
            case rel => exact ⟨c + 1, by omega, rfl, by go_num, HB2.out, by rw [RN.out]; exact HO2.out⟩
          | false =>
            skip
            have RN : Hid (Pure.repsN ns (c + 1) = R ++ [c]) := by
              show _ = _
              rw [Pure.repsN_succ, HR.out, if_neg (by rw [eo]; simp)]
            clear eo HR
            have sz := HB2.out.size
            go_wp2_with (at_builtin; go_must (refine wpList_append_nats rfl (.tmp 73) (.tmp 75) rfl w.heap.size _ R [c] rfl (World.ownsRow.alloc HO2.out _) (some ⟨wr.heap.size, 0, none⟩) 1 1 rfl ⟨rfl, .inr ⟨_, rfl, fun j0 x0 h0 => cell_list3 (xs := [.int .i64 (c : Int)]) rfl j0 _ (by cases j0 with | zero => simp at h0; subst h0; rfl | succ j0 => simp at h0)⟩⟩ (by simp; omega) (by simp; omega) ?_); intro v2 w2 hown2 hgrow2)
            have hb2 : Below w.heap.size w w2 := (HB2.out.alloc sz _).grown hgrow2 (by simp; omega) (fun k' h => (World.ownsRow.lt HO2.out k' h).1)
            have O2 := hide hown2
            clear hgrow2 hown2
            go_roundg (256 - (c + 1))
            case measure => omega
            case rel => exact ⟨c + 1, by omega, rfl, by go_num, hb2, by rw [RN.out]; exact O2.out⟩
    · have d1 : decide ((c : Int) < 256) = false := decide_eq_false (by omega)
      have e : c = 256 := by omega
      subst e
      go_wp2
      go_ret
      exact ⟨_, rfl, HB.out, by rw [HR.out]; exact HO.out⟩

end Go.Proofs.Ytmccnmgaoppogaa

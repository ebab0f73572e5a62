/-
  The walks: is there no way round? (weirref)
-/
import Derived.Test.YtmccnmgaoppogaaGreatW6a
namespace Go.Proofs.YtmccnmgaoppogaaGreat
open Go.RowKit

def boolOf : Value → Nat | .bool true => 1 | _ => 0

theorem EndAt.lt {B : Nat} {wr : World} {g n : Nat} {L : List Bool} (h : EndAt B wr g n L) : B ≤ g ∧ g < wr.heap.size := World.ownsRow.lt h g rfl

set_option maxRecDepth 100000 in
set_option maxHeartbeats 2000000 in
theorem noWay_any (v : Value) (l : List Pure.Ins) (w : World) (hv : Code w v l) (ht : Pure.Tight l) (hn : l.length ≤ 50000) :
    Calls Tryz.prog 69 #[v] w (RetB (Pure.NoWay l) w) := by
  obtain ⟨i0, hi, hz0, hz1, hz2⟩ := info_parts Tryz.info4
  have HT := hide ht
  clear ht
  have HV := hide hv
  obtain ⟨ao, cap, rfl, hc1, hc2, -⟩ := hv.read
  clear hv
  go_enter Tryz.func69, Tryz.ntmps69
  go_wp2_with (at_make; refine wpList_make_full _ rfl _ _ 203 rfl w.heap.size 4 i0 (.bool false) 1 Tryz.underlying203 hi hz0 hz1 _ _ _ _ l.length rfl rfl rfl rfl (by rw [hz2]; omega) (by unfold maxLen; omega) (Nat.le_refl _) ?_; intro w1 hown hgrow)
  have hbel1 : Below w.heap.size w w1 := (Below.refl _ _).grown hgrow (Nat.le_refl _) (fun k h => by cases h)
  rw [made_bools] at hown
  have HO : Hid (EndAt w.heap.size w1 w.heap.size l.length (List.replicate l.length false)) := hown
  clear hown hgrow
  go_loopw [4, 5] (fun lf mr wr => ∃ (E : List Bool) (more : Bool), lf = .int .i64 ((E.count false : Nat) : Int) ∧ mr = .bool more ∧ Below w.heap.size w wr ∧ EndAt w.heap.size wr w.heap.size l.length E ∧ E.length = l.length ∧ Pure.Sound l E ∧ (more = false → Pure.Quiet l E (2 * l.length))) (fun lf mr _ => 2 * (intOf lf).toNat + boolOf mr)
  case atStart => exact ⟨_, true, by simp, rfl, hbel1, HO.out, by simp, Pure.sound_none l _, fun h => Bool.noConfusion h⟩
  case round =>
    clear HO hbel1
    obtain ⟨E, more, rfl, rfl, hbel, hE, hEl, hsound, hq⟩ := hrel
    cases more
    · have HF : Hid ((((E.count false : Nat) : Int) == 0) = true ↔ Pure.NoWay l) := Pure.pass_end HT.out ⟨hEl, hsound, Nat.le_refl _, fun h => Bool.noConfusion h, hq⟩ (Nat.le_refl _)
      clear hq hsound hE hEl
      go_wp2
      go_ret
      exact retB HF.out hbel
    · have HP := hide (Pure.pass_start hEl hsound)
      have hL0 : E.count false ≤ l.length := by have := Pure.count_le E; omega
      clear hq hsound hEl
      generalize hL : E.count false = L0 at *
      have HL := hide hL
      clear hL
      go_wp2_with fail
      go_loopw [4, 5, 6] (fun lf mr kv wq => ∃ (E' : List Bool) (more' : Bool) (k : Nat), k ≤ 2 * l.length ∧ lf = .int .i64 ((E'.count false : Nat) : Int) ∧ mr = .bool more' ∧ kv = .int .i64 k ∧ Below w.heap.size w wq ∧ EndAt w.heap.size wq w.heap.size l.length E' ∧ Pure.Pass l E' more' k L0) (fun _ _ kv _ => 2 * l.length - (intOf kv).toNat)
      case atStart => exact ⟨E, false, 0, by omega, by rw [HL.out], rfl, rfl, hbel, hE, HP.out⟩
      case round =>
        clear HP HL hbel hE
        obtain ⟨E', more', k, hk, rfl, rfl, rfl, hbelq, hEq, hpass⟩ := hrel
        have hEl := hpass.len
        have HEl := hide hEl
        have hcl : E'.count false ≤ l.length := by have := Pure.count_le E'; omega
        have HP := hide hpass
        clear hpass
        by_cases hlt : k < 2 * l.length
        · by_cases hkn : k < l.length
          · have hkd : decide ((l.length : Int) ≤ (k : Int)) = false := by simp; omega
            have hidx : k < l.length := by omega
            have hcell := hEq.cell (v := k) (by omega)
            have hfz := hEq.frozen (k)
            clear hEl
            cases hb : Pure.bg E' (k)
            · rw [hb] at hcell
              go_wp2_with fail
              refine (ends_any _ l w.heap.size w.heap.size E' (k : Int) _ (HV.out.below hbelq) hEq HEl.out HT.out hn (by omega) (by omega)).mono ?_
              rintro e w' ⟨rfl, rfl⟩
              have hix : Int.toNat ((k : Int)) = k := by omega
              rw [hix]
              clear hix
              cases hen : Pure.endsB l E' (k)
              · go_wp2
                go_roundw
                case rel => exact ⟨E', more', k + 1, by omega, rfl, rfl, by go_num, hbelq, hEq, Pure.pass_skip HP.out (fun hkl => .inr hen)⟩
                case measure => simp [intOf]; omega
              · have hset := Pure.pass_set HP.out hidx hb hen
                have HS := hide hset.1
                have hcnt := hset.2
                have hc1 : 1 ≤ E'.count false := by omega
                have HCN : Hid (((E'.count false : Nat) : Int) - 1 = (((E'.set (k) true).count false : Nat) : Int)) := by show ((E'.count false : Nat) : Int) - 1 = _; omega
                clear hset hcnt
                go_wp2
                go_roundw
                case rel => exact ⟨E'.set (k) true, true, k + 1, by omega, by rw [HCN.out], rfl, by go_num, hbelq.setCell (Nat.le_refl _) _, hEq.store _ _, HS.out⟩
                case measure => simp [intOf]; omega
            · rw [hb] at hcell
              go_wp2
              go_roundw
              case rel => exact ⟨E', more', k + 1, by omega, rfl, rfl, by go_num, hbelq, hEq, Pure.pass_skip HP.out (fun hkl => .inl hb)⟩
              case measure => simp [intOf]; omega
          · have hkd : decide ((l.length : Int) ≤ (k : Int)) = true := by simp; omega
            have hkn' : l.length ≤ k := by omega
            have hidx : 2 * l.length - 1 - k < l.length := by omega
            have hcell := hEq.cell (v := 2 * l.length - 1 - k) (by omega)
            have hfz := hEq.frozen (2 * l.length - 1 - k)
            clear hEl
            cases hb : Pure.bg E' (2 * l.length - 1 - k)
            · rw [hb] at hcell
              go_wp2_with fail
              refine (ends_any _ l w.heap.size w.heap.size E' (2 * (l.length : Int) - 1 - (k : Int)) _ (HV.out.below hbelq) hEq HEl.out HT.out hn (by omega) (by omega)).mono ?_
              rintro e w' ⟨rfl, rfl⟩
              have hix : Int.toNat ((2 * (l.length : Int) - 1 - (k : Int))) = 2 * l.length - 1 - k := by omega
              rw [hix]
              clear hix
              cases hen : Pure.endsB l E' (2 * l.length - 1 - k)
              · go_wp2
                go_roundw
                case rel => exact ⟨E', more', k + 1, by omega, rfl, rfl, by go_num, hbelq, hEq, Pure.pass_skip HP.out (fun hkl => absurd hkl (by omega))⟩
                case measure => simp [intOf]; omega
              · have hset := Pure.pass_set HP.out hidx hb hen
                have HS := hide hset.1
                have hcnt := hset.2
                have hc1 : 1 ≤ E'.count false := by omega
                have HCN : Hid (((E'.count false : Nat) : Int) - 1 = (((E'.set (2 * l.length - 1 - k) true).count false : Nat) : Int)) := by show ((E'.count false : Nat) : Int) - 1 = _; omega
                clear hset hcnt
                go_wp2
                go_roundw
                case rel => exact ⟨E'.set (2 * l.length - 1 - k) true, true, k + 1, by omega, by rw [HCN.out], rfl, by go_num, hbelq.setCell (Nat.le_refl _) _, hEq.store _ _, HS.out⟩
                case measure => simp [intOf]; omega
            · rw [hb] at hcell
              go_wp2
              go_roundw
              case rel => exact ⟨E', more', k + 1, by omega, rfl, rfl, by go_num, hbelq, hEq, Pure.pass_skip HP.out (fun hkl => absurd hkl (by omega))⟩
              case measure => simp [intOf]; omega
        · have hke : k = 2 * l.length := by omega
          have hle := HP.out.le
          have hlm := HP.out.lt
          have HLM := hide hlm
          clear hlm
          go_wp2
          go_roundw
          case rel => exact ⟨E', more', rfl, rfl, hbelq, hEq, HEl.out, HP.out.sound, fun hm => by rw [← hke]; exact HP.out.quiet hm⟩
          case measure =>
            have := HLM.out
            cases more'
            · simp [intOf, boolOf]; omega
            · have := this rfl; simp [intOf, boolOf]; omega

end Go.Proofs.YtmccnmgaoppogaaGreat

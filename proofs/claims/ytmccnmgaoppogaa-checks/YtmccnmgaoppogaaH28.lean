/-
  The walks: the document's Check; the law. (weirref, weirlaw)
-/
import Derived.Test.YtmccnmgaoppogaaH27
namespace Go.Proofs.Ytmccnmgaoppogaa
open Go.RowKit

set_option maxHeartbeats 400000 in
theorem dCheck_any (s : ByteArray) (en no : Int) (hP : Pure.PCheck s en no) (w : World) (MACH : MachH s) :
    Calls Try.prog 60 #[.string s] w (RetVal (.tuple #[.int .i64 en, .int .i64 no]) w) := by
  have CALL := hide (dRead_any s en no hP w MACH)
  clear hP MACH
  go_enter Try.func60, Try.ntmps60
  go_wp2_with fail
  refine CALL.out.mono ?_
  clear CALL
  rintro e w2 ⟨p, rfl, hb, _⟩
  go_wp2
  go_ret2
  exact ⟨rfl, hb⟩

set_option maxHeartbeats 400000 in
theorem num_any (n : Int) (w : World) : Calls Try.prog 36 #[.int .i64 n] w (RetVal (.int .i64 n) w) := by
  go_enter Try.func36, Try.ntmps36
  go_wp2
  go_ret
  exact ⟨rfl, Below.refl _ _⟩

set_option maxHeartbeats 400000 in
theorem checked_any (s : ByteArray) (w : World) (MACH : MachH s) : Calls Try.prog 33 #[.string s] w (RetVal (.bool true) w) := by
  have HM := hide MACH
  clear MACH
  go_enter Try.func33, Try.ntmps33
  go_wp2_with fail
  refine (check_any s w).mono ?_
  rintro e w2 ⟨en, no, rfl, hb2, hP⟩
  have CALL := hide (dCheck_any s en no hP w2 HM.out)
  have B2 := hide hb2
  clear hP hb2 HM
  go_wp2_with fail
  refine CALL.out.mono ?_
  clear CALL
  rintro e w3 ⟨rfl, hb3⟩
  have B3 := hide (B2.out.trans (hb3.mono B2.out.size))
  clear hb3
  go_wp2_with fail
  refine (num_any en w3).mono ?_
  rintro e w4 ⟨rfl, hb4⟩
  have B4 := hide (B3.out.trans (hb4.mono B3.out.size))
  clear hb4
  have e1 : (en == en) = true := by simp
  have e2 : (no == no) = true := by simp
  go_wp2
  go_ret
  exact ⟨rfl, B4.out⟩

set_option maxHeartbeats 400000 in
theorem checks_any (s : ByteArray) (w : World) (MACH : MachH s) : Calls Try.prog 9 #[.string s] w (RetVal (.bool true) w) := by
  have CALL := hide (checked_any s w MACH)
  clear MACH
  go_enter Try.func9, Try.ntmps9
  go_wp2_with fail
  refine CALL.out.mono ?_
  clear CALL
  rintro e w2 ⟨rfl, hb⟩
  go_wp2
  go_ret
  exact ⟨rfl, hb⟩

end Go.Proofs.Ytmccnmgaoppogaa

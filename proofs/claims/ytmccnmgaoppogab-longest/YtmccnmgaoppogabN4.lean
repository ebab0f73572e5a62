/-
  The walks: the tokens of an input by an image. (weirkeep)
-/
import Derived.Test.YtmccnmgaoppogabSS
import Derived.Test.YtmccnmgaoppogabBA
namespace Go.Proofs.Ytmccnmgaoppogab
open Go.RowKit

/-- the tokens of an input that has ended -/
def RetScn (p : Pure.Prg) (s : ByteArray) (w : World) (e : Ending) (w' : World) : Prop := ∃ D vo, Pure.Runs ⟨p, 64, 0, s, true⟩ (cfg0 p) D ∧ e = .returned (.tuple #[vo, .int .i64 D.err]) ∧ w'.ownsRow w.heap.size 38 5 vo D.toks.length (tokCells D.toks) ∧ Below w.heap.size w w'
theorem img_size {p : Pure.Prg} (h : Pure.RightP p) : (strOfNums (Pure.img p)).size ≤ 9223372036854775807 := by
  have h1 := Pure.img_len p
  have h2 : (strOfNums (Pure.img p)).size = (Pure.img p).length := by simp [strOfNums, ByteArray.size]
  have h3 := h.2.2.1.1.2
  have h4 := h.1.1.2
  have h5 := h.2.1.1.2
  omega
theorem one_cat (s : ByteArray) : catN [s] [s].length = s := by
  show noBytes ++ s = s
  exact no_left s
theorem one_sum (s : ByteArray) : sumN [s] [s].length = s.size := by
  show 0 + s.size = s.size
  omega

set_option maxRecDepth 100000 in
set_option maxHeartbeats 4000000 in
theorem scanned_any (p : Pure.Prg) (s : ByteArray) (w : World) (hR : Pure.RightP p) (hs : s.size ≤ 274877906944) :
    Calls Try.prog 14 #[.string (strOfNums (Pure.img p)), .string s] w (RetScn p s w) := by
  have fm := img_form hR
  have CALL := hide (start_any (strOfNums (Pure.img p)) 64 0 w (img_size hR) (by unfold Rng; omega) (by unfold Rng; omega))
  have FM := hide fm
  have HR := hide hR
  clear fm hR
  go_enter Try.func14, Try.ntmps14
  go_wp2_with fail
  refine CALL.out.mono ?_
  clear CALL
  rintro e w1 (⟨_, g, rfl, hg, hb1, hSc⟩ | ⟨hn, _⟩ | ⟨_, hn, _⟩)
  · rw [FM.out.2] at hSc
    have hbA : Below w1.heap.size w1 (w1.alloc (.cells #[.string s] 9)) := (Below.refl _ _).alloc (Nat.le_refl _) _
    have SC := hide (Sc.below hSc hbA)
    have OS := hide (own_string w1 s)
    have B2 := hide (bel0 hb1 hbA)
    have HG := hide hg
    clear hSc hbA hb1 hg FM
    go_wp2_with fail
    refine (told_any g p 64 0 _ [s] _ SC.out OS.out (by rw [one_sum]; exact hs) (by simp)).mono ?_
    rintro e w3 ⟨D, vo, hr, rfl, ho, _, hg3⟩
    rw [envF_eq p 64 0 [s] s (one_cat s)] at hr
    have B3 := hide (B2.out.grown hg3 B2.out.size (fun k e => by cases e; exact HG.out))
    have O3 := hide (own_mono ho B2.out.size)
    obtain ⟨ao, co, rfl, -⟩ := own_read ho
    have HRN := hide hr
    clear hr ho hg3 SC OS B2
    generalize hE : D.err = er at *
    go_wp2
    go_ret2
    subst hE
    exact ⟨D, _, HRN.out, rfl, O3.out, B3.out⟩
  · exact absurd ⟨FM.out.1, by rw [FM.out.2]; exact HR.out⟩ hn
  · exact absurd ⟨⟨by omega, by omega⟩, ⟨by omega, by omega⟩⟩ hn

end Go.Proofs.Ytmccnmgaoppogab

/-
  Split: the given statement of the second form, proved.
-/
import Derived.Test.YtmccnmgaoppogaaQC
import Derived.Test.YtmccnmgaoppogaaQ4
import Derived.ShutString
namespace Go.Proofs.Ytmccnmgaoppogaa
open Go.ChangeShapes Go.WideShapes Go.ChangeAt Go.RowKit Go.Deep Go.Joins
open Go.ChangeMaps (open_string shut_string)

theorem ints_in_bulk {H : Type} {enc : TypeId × Value → H} {W : World} {spare : Nat → Bool} {held : Bool} {fuel : Nat} {v : Value} {x : DataW H × List MemPlace} (h : DataW.trod enc Try.prog W 0 spare held fuel 22 [v] = some x) :
    ∃ l, Ints W v l ∧ IntsR l ∧ l.length ≤ Rows.uptoBulk x.1 := by
  obtain ⟨l, h1, h2⟩ := ints_in h
  refine ⟨l, h1, h2, ?_⟩
  obtain ⟨ao, cap, rfl, _⟩ := h1.read
  rcases open_slice Try.underlying22 h with ⟨hcs, hx⟩ | ⟨a, len, cap', m, n, D, Pl, hcs, _, hl, hm, hmm, hx, hcell⟩
  · simp only [List.cons.injEq, Value.slice.injEq, and_true] at hcs
    omega
  · simp only [List.cons.injEq, Value.slice.injEq, and_true] at hcs
    rw [hx]
    have key : ∀ (L : List (DataW H)), L.length ≤ Rows.uptoBulkAll L := by
      intro L
      induction L with
      | nil => simp
      | cons y r ih =>
        have : 1 ≤ Rows.uptoBulk y := by
          cases y with
          | lit q => cases q <;> simp [Rows.uptoBulk]
          | nil => simp [Rows.uptoBulk]
          | ptr d => simp [Rows.uptoBulk]
          | slice a b => simp [Rows.uptoBulk]
          | agg ps => simp [Rows.uptoBulk]
          | iface t d => simp [Rows.uptoBulk]
          | map es => simp [Rows.uptoBulk]
          | held h => simp [Rows.uptoBulk]
        simp only [Rows.uptoBulkAll, List.length_cons]
        omega
    have k1 := key ((List.range len).map D)
    rw [List.length_map, List.length_range] at k1
    simp only [Rows.uptoBulk]
    omega

set_option maxRecDepth 100000 in
theorem split_contract (H : Type) (enc : TypeId × Value → H) (W : World) (base : Nat) (args : Array Value) (ds gs : List (DataW H)) (before : List MemPlace)
    (hval0 : ∀ (j : Nat) t v, Try.f6.params[j]? = some t → args[j]? = some v → Value.okWide Try.prog W .any base t v)
    (hW : DataW.Whole enc Try.prog Try.f6.params.toList Rows.splitSpec.vars false W args.toList ds gs before) (hk : Rows.uptoSmall H (ds ++ gs) = true) :
    Calls Try.prog 6 args W fun e W' => ∃ v, e = .returned v ∧ Rows.splitSpec.post enc Try.prog Try.f6 false true false false W args v W' := by
  have hval : ∀ (j : Nat) t v, Try.f6.params[j]? = some t → args[j]? = some v → Value.okWide Try.prog W .any base t v := hval0
  have hW' := hW
  obtain ⟨p, q, hA0, hV, rfl, _, _⟩ := hW
  have hA : DataW.TrodAll enc Try.prog W 0 (fun _ => true) true Try.f6.params.toList args.toList ds p := hA0
  rw [Try.params6] at hA hval
  obtain ⟨v0, vs0, d0, ds0, p0, q0, hargs0, rfl, rfl, h0, r0⟩ := trodAll_cons hA
  obtain ⟨v1, vs1, d1, ds1, p1, q1, rfl, rfl, rfl, h1, r1⟩ := trodAll_cons r0
  obtain ⟨v2, vs2, d2, ds2, p2, q2, rfl, rfl, rfl, h2, r2⟩ := trodAll_cons r1
  obtain ⟨v3, vs3, d3, ds3, p3, q3, rfl, rfl, rfl, h3, r3⟩ := trodAll_cons r2
  obtain ⟨v4, vs4, d4, ds4, p4, q4, rfl, rfl, rfl, h4, r4⟩ := trodAll_cons r3
  obtain ⟨rfl, rfl, rfl⟩ := trodAll_nil r4
  obtain rfl : args = #[v0, v1, v2, v3, v4] := by cases args; simp_all
  obtain ⟨rfl, rfl⟩ := trodVars_none hV
  obtain ⟨n1, rfl, rfl, rfl, hn1⟩ := open_int Try.underlying3 (hval 1 3 v1 rfl rfl) h1
  obtain ⟨n2, rfl, rfl, rfl, hn2⟩ := open_int Try.underlying3 (hval 2 3 v2 rfl rfl) h2
  obtain ⟨s, rfl, rfl, rfl, hs⟩ := open_string Try.underlying9 (hval 3 9 v3 rfl rfl) h3
  have h0k := h0
  have h4k := h4
  clear hA0 hval0
  simp only [List.append_nil, List.nil_append] at hW' hk
  have hlt : ∀ x ∈ p0 ++ p4, x.block < W.heap.size := fun x hx => by simpa using hW'.lt x (by simpa using hx)
  obtain ⟨u0, u1, u2, y0, y1, y2, n, rfl, hd, _, t0, t1, t2⟩ := open_agg3 Try.underlying26 (by kernel_rfl) Try.cells26 (hval 0 26 v0 rfl rfl) h0
  obtain ⟨le, hE, rE⟩ := ints_in t0
  obtain ⟨lr, hR, rR⟩ := rules_in t1
  obtain ⟨lc, hC, rC⟩ := code_in t2
  obtain ⟨as4, len4, cap4, rfl⟩ := okWide_slice Try.underlying22 (hval 4 22 v4 rfl rfl)
  obtain ⟨fu, hfu⟩ := h4
  obtain ⟨lq, hQ, rQ, hql⟩ := ints_in_bulk (v := .slice as4 len4 cap4) hfu
  have hb4 := bulk_part (d := d4) (l := [d0, .lit (.int .i64 n1), .lit (.int .i64 n2), .lit (.string s.data.toList), d4]) (by simp)
  have hb3 := bulk_part (d := (.lit (.string s.data.toList) : DataW H)) (l := [d0, .lit (.int .i64 n1), .lit (.int .i64 n2), .lit (.string s.data.toList), d4]) (by simp)
  have hss : Rows.uptoBulk (DataW.lit (.string s.data.toList) : DataW H) = s.size + 1 := by simp [Rows.uptoBulk]
  have hb2 := bulk_small hk
  refine (split_any u0 u1 u2 _ ⟨le, lr, lc⟩ n1 n2 s lq W hE hR hC rE rR rC (rng_wf hn1) (rng_wf hn2) hQ rQ (by omega) (by simp only at hql; omega)).mono fun e W' ⟨he, hbel⟩ => ?_
  subst he
  refine ⟨_, rfl, _, _, _, [], p0 ++ p4, [], hW', ?_, ?_, rfl, hbel.frame _, fun h => by cases h⟩
  · exact trodAll_mk1 (shut_bool Try.underlying4 true)
  · have a0 := Below.trod Try.laidOut (by kernel_rfl) (of_decide_eq_true (by kernel_rfl)) h0k hbel (fun x hx => hlt x (List.mem_append_left _ hx))
    have a4 := Below.trod Try.laidOut (by kernel_rfl) (of_decide_eq_true (by kernel_rfl)) h4k hbel (fun x hx => hlt x (List.mem_append_right _ hx))
    have h5 := trodAll_cons_mk a0 (trodAll_cons_mk (shut_int Try.underlying3 hn1) (trodAll_cons_mk (shut_int Try.underlying3 hn2) (trodAll_cons_mk (shut_string Try.underlying9 hs) (trodAll_cons_mk a4 trodAll_mk0))))
    simp only [List.nil_append, List.append_nil] at h5
    exact h5

set_option maxRecDepth 100000 in
theorem split_lifted (os : Os) (started : os.Started) (H : Type) (enc : TypeId × Value → H) (F : Stop.Interp) :
    ReturnsInHanded {} Try.checked os 6 .any ((Rows.OpenSpec.upto Rows.splitSpec).pre6 enc Try.prog Try.f6 Rows.splitUptoRow.domain false) (((Rows.OpenSpec.upto Rows.splitSpec).at F).post enc Try.prog Try.f6 false true false false) := by
  refine returnsInHanded_of_cond (C := Try.checked) (s := Rows.OpenSpec.upto Rows.splitSpec) (k := Rows.uptoSmall) rfl Try.own started (by kernel_rfl) Try.func6
    (OpenSpec.witness (enc := enc) (C := Try.checked) (s := Rows.OpenSpec.upto Rows.splitSpec) (k := Rows.uptoSmall) rfl false ⟨#[], #[.agg #[.slice none 0 0, .slice none 0 0, .slice none 0 0], .int .i64 0, .int .i64 0, .string ⟨#[]⟩, .slice none 0 0], []⟩ 8 (by kernel_rfl) (by kernel_rfl) (by kernel_rfl)
      (x := ([.agg [.nil, .nil, .nil], .lit (.int .i64 0), .lit (.int .i64 0), .lit (.string []), .nil], [], [])) (by kernel_rfl) rfl (by kernel_rfl)) ?_
  intro W base args ds gs before hval hW _ hk _
  exact split_contract H enc W base args ds gs before hval hW hk

theorem split_holds : Rows.SplitUptoSaid :=
  OpenClaim.holds_of_cond 6 Try.f6 rfl rfl rfl rfl rfl rfl rfl ⟨rfl, rfl, rfl, rfl, rfl⟩ rfl rfl rfl rfl rfl (by kernel_rfl) Try.func6 (by kernel_rfl)
    (of_decide_eq_true (by kernel_rfl)) (by unfold Func.isWrapper; rw [if_neg (by decide +kernel)]; exact ⟨rfl, rfl⟩)
    (fun os started H enc _ F => split_lifted os started H enc F)

end Go.Proofs.Ytmccnmgaoppogaa

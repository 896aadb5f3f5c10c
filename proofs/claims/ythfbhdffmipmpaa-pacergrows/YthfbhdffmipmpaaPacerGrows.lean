
/- The Go function tilthlaw16.PacerGrows returns true for every input, and its arguments read afterwards as they read before: the given statement PacerGrowsSaid, without further conditions. -/
import Derived.Test.YthfbhdffmipmpaaPcE
import Derived.Test.YthfbhdffmipmpaaArgR
import Derived.Test.YthfbhdffmipmpaaConfR
namespace Go.Proofs.Ythfbhdffmipmpaa
open Go.ChangeShapes Go.WideShapes Go.ChangeAt Go.RowKit Go.Deep

set_option maxRecDepth 100000 in
theorem pacerGrows_lifted (os : Os) (started : os.Started) (H : Type) (enc : TypeId × Value → H) :
    ReturnsInHanded {} Try.checked os 4 .any (Rows.pacerGrowsSpec.pre6 enc Try.prog Try.f4 Rows.pacerGrowsRow.domain false) (Rows.pacerGrowsSpec.post enc Try.prog Try.f4 false true false false) := by
  refine returnsInHanded_of_change (C := Try.checked) own started (by kernel_rfl) Try.func4
    (ChangeSpec.witness6 (enc := enc) (C := Try.checked) false ⟨#[], #[.agg #[.int .i64 0, .int .i64 0, .int .i64 0, .int .i64 0, .int .i64 0, .int .i64 0, .int .i64 0, .int .i64 0, .int .i64 0, .int .i64 0, .int .i64 0, .int .i64 0, .int .i64 0], .int .i64 0, .int .i64 0, .int .i64 0, .int .i64 0, .int .u16 0, .int .u16 0], []⟩ 8 (by kernel_rfl) (by kernel_rfl) (by kernel_rfl) (by kernel_rfl)) ?_
  intro W base args ds gs before hval0 hW _ _
  have hval : ∀ (j : Nat) t v, Try.f4.params[j]? = some t → args[j]? = some v → Value.okWide Try.prog W .any base t v := hval0
  have hW0 := hW
  obtain ⟨p, q, hA0, _, _, _, _⟩ := hW
  have hA : DataW.TrodAll enc Try.prog W 0 (fun _ => true) true Try.f4.params.toList args.toList ds p := hA0
  rw [Try.params4] at hA hval
  obtain ⟨v0, vs0, d0, ds0, pl0, ql0, hargs, rfl, rfl, h0, r0⟩ := trodAll_cons hA
  obtain ⟨v1, vs1, d1, ds1, pl1, ql1, rfl, rfl, rfl, h1, r1⟩ := trodAll_cons r0
  obtain ⟨v2, vs2, d2, ds2, pl2, ql2, rfl, rfl, rfl, h2, r2⟩ := trodAll_cons r1
  obtain ⟨v3, vs3, d3, ds3, pl3, ql3, rfl, rfl, rfl, h3, r3⟩ := trodAll_cons r2
  obtain ⟨v4, vs4, d4, ds4, pl4, ql4, rfl, rfl, rfl, h4, r4⟩ := trodAll_cons r3
  obtain ⟨v5, vs5, d5, ds5, pl5, ql5, rfl, rfl, rfl, h5, r5⟩ := trodAll_cons r4
  obtain ⟨v6, vs6, d6, ds6, pl6, ql6, rfl, rfl, rfl, h6, r6⟩ := trodAll_cons r5
  obtain ⟨rfl, rfl, rfl⟩ := trodAll_nil r6
  obtain rfl : args = #[v0, v1, v2, v3, v4, v5, v6] := by cases args; simp_all
  obtain ⟨ha0, nu0, ps0, pz0, cd0, bf0, st0, tn0, lg0, mi0, ma0, na0, ja0, rfl⟩ := open_conf (hval 0 23 v0 rfl rfl) h0
  obtain ⟨x1, rfl, rfl, rfl, wf1⟩ := open_int Try.underlying3 (hval 1 3 v1 rfl rfl) h1
  have bd1 : -9223372036854775808 ≤ x1 ∧ x1 ≤ 9223372036854775807 := bounds_int wf1
  obtain ⟨x2, rfl, rfl, rfl, wf2⟩ := open_int Try.underlying3 (hval 2 3 v2 rfl rfl) h2
  have bd2 : -9223372036854775808 ≤ x2 ∧ x2 ≤ 9223372036854775807 := bounds_int wf2
  obtain ⟨x3, rfl, rfl, rfl, wf3⟩ := open_int Try.underlying3 (hval 3 3 v3 rfl rfl) h3
  have bd3 : -9223372036854775808 ≤ x3 ∧ x3 ≤ 9223372036854775807 := bounds_int wf3
  obtain ⟨x4, rfl, rfl, rfl, wf4⟩ := open_int Try.underlying3 (hval 4 3 v4 rfl rfl) h4
  have bd4 : -9223372036854775808 ≤ x4 ∧ x4 ≤ 9223372036854775807 := bounds_int wf4
  obtain ⟨x5, rfl, rfl, rfl, wf5⟩ := open_int Try.underlying29 (hval 5 29 v5 rfl rfl) h5
  have bd5 : 0 ≤ x5 ∧ x5 ≤ 65535 := bounds_int wf5
  obtain ⟨x6, rfl, rfl, rfl, wf6⟩ := open_int Try.underlying29 (hval 6 29 v6 rfl rfl) h6
  have bd6 : 0 ≤ x6 ∧ x6 ≤ 65535 := bounds_int wf6
  exact (pacerGrows_walk ha0 nu0 ps0 pz0 cd0 bf0 st0 tn0 lg0 mi0 ma0 na0 ja0 x1 x2 x3 x4 x5 x6 (by omega) (by omega) (by omega) (by omega) (by omega) (by omega) (by omega) (by omega) W).mono fun e W' ⟨he, bel⟩ => ⟨_, he, law_post laidOut (by kernel_rfl) (by kernel_rfl) Try.underlying4 rfl
    (fun ds hds => by rw [Try.params4] at hds; match ds, hds with | [_, _, _, _, _, _, _], _ => rfl) hW0 bel⟩

theorem pacerGrows_holds : Rows.PacerGrowsSaid :=
  OpenClaim.holds_of_wide 4 Try.f4 rfl rfl rfl rfl rfl rfl rfl ⟨rfl, rfl, rfl, rfl, rfl⟩ rfl rfl rfl rfl rfl (by kernel_rfl) Try.func4 (by kernel_rfl)
    (of_decide_eq_true (by kernel_rfl)) (by unfold Func.isWrapper; first | (rw [if_pos (by decide +kernel)]; kernel_rfl) | (rw [if_neg (by decide +kernel)]; exact ⟨rfl, rfl⟩))
    (fun os started H enc _ => pacerGrows_lifted os started H enc)
#print axioms pacerGrows_holds
end Go.Proofs.Ythfbhdffmipmpaa

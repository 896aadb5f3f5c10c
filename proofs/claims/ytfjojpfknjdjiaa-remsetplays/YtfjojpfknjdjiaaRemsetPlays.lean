/- The Go function tilthlaw10.RemsetPlays returns true for every input, and its arguments read afterwards as they read before: the given statement RemsetPlaysSaid, without further conditions. -/
import Derived.Test.YtfjojpfknjdjiaaRemI
import Derived.Test.YtfjojpfknjdjiaaArgR
import Derived.Test.YtfjojpfknjdjiaaNums
namespace Go.Proofs.Ytfjojpfknjdjiaa
open Go.ChangeShapes Go.WideShapes Go.ChangeAt Go.RowKit Go.Deep

set_option maxRecDepth 100000 in
theorem remsetPlays_lifted (os : Os) (started : os.Started) (H : Type) (enc : TypeId × Value → H) :
    ReturnsInHanded {} Try.checked os 3 .any (Rows.remsetPlaysSpec.pre6 enc Try.prog Try.f3 Rows.remsetPlaysRow.domain false) (Rows.remsetPlaysSpec.post enc Try.prog Try.f3 false true false false) := by
  refine returnsInHanded_of_change (C := Try.checked) own started (by kernel_rfl) Try.func3
    (ChangeSpec.witness6 (enc := enc) (C := Try.checked) false ⟨#[], #[.int .u16 0, .int .u16 0, .int .u16 0, .int .u16 0, .slice none 0 0], []⟩ 8 (by kernel_rfl) (by kernel_rfl) (by kernel_rfl) (by kernel_rfl)) ?_
  intro W base args ds gs before hval0 hW _ _
  have hval : ∀ (j : Nat) t v, Try.f3.params[j]? = some t → args[j]? = some v → Value.okWide Try.prog W .any base t v := hval0
  have hW0 := hW
  obtain ⟨p, q, hA0, _, _, _, _⟩ := hW
  have hA : DataW.TrodAll enc Try.prog W 0 (fun _ => true) true Try.f3.params.toList args.toList ds p := hA0
  rw [Try.params3] at hA hval
  obtain ⟨v0, vs0, d0, ds0, pl0, ql0, hargs, rfl, rfl, h0, r0⟩ := trodAll_cons hA
  obtain ⟨v1, vs1, d1, ds1, pl1, ql1, rfl, rfl, rfl, h1, r1⟩ := trodAll_cons r0
  obtain ⟨v2, vs2, d2, ds2, pl2, ql2, rfl, rfl, rfl, h2, r2⟩ := trodAll_cons r1
  obtain ⟨v3, vs3, d3, ds3, pl3, ql3, rfl, rfl, rfl, h3, r3⟩ := trodAll_cons r2
  obtain ⟨v4, vs4, d4, ds4, pl4, ql4, rfl, rfl, rfl, h4, r4⟩ := trodAll_cons r3
  obtain ⟨rfl, rfl, rfl⟩ := trodAll_nil r4
  obtain rfl : args = #[v0, v1, v2, v3, v4] := by cases args; simp_all
  obtain ⟨x0, rfl, rfl, rfl, wf0⟩ := open_int Try.underlying22 (hval 0 22 v0 rfl rfl) h0
  have bd0 : 0 ≤ x0 ∧ x0 ≤ 65535 := bounds_int wf0
  obtain ⟨x1, rfl, rfl, rfl, wf1⟩ := open_int Try.underlying22 (hval 1 22 v1 rfl rfl) h1
  have bd1 : 0 ≤ x1 ∧ x1 ≤ 65535 := bounds_int wf1
  obtain ⟨x2, rfl, rfl, rfl, wf2⟩ := open_int Try.underlying22 (hval 2 22 v2 rfl rfl) h2
  have bd2 : 0 ≤ x2 ∧ x2 ≤ 65535 := bounds_int wf2
  obtain ⟨x3, rfl, rfl, rfl, wf3⟩ := open_int Try.underlying22 (hval 3 22 v3 rfl rfl) h3
  have bd3 : 0 ≤ x3 ∧ x3 ≤ 65535 := bounds_int wf3
  obtain ⟨A4, N4, c4, rfl, nc4, cm4, rd4⟩ := open_pairs Try.underlying23 Try.underlying31 (by kernel_rfl) (by kernel_rfl) Try.underlying3 rfl rfl (hval 4 23 v4 rfl rfl) h4
  exact (remsetPlays_walk x0 x1 x2 x3 A4 N4 c4 (by omega) (by omega) (by omega) (by omega) (by omega) W rd4 nc4 cm4).mono fun e W' ⟨he, bel⟩ => ⟨_, he, law_post laidOut (by kernel_rfl) (by kernel_rfl) Try.underlying4 rfl
    (fun ds hds => by rw [Try.params3] at hds; match ds, hds with | [_, _, _, _, _], _ => rfl) hW0 bel⟩

theorem remsetPlays_holds : Rows.RemsetPlaysSaid :=
  OpenClaim.holds_of_wide 3 Try.f3 rfl rfl rfl rfl rfl rfl rfl ⟨rfl, rfl, rfl, rfl, rfl⟩ rfl rfl rfl rfl rfl (by kernel_rfl) Try.func3 (by kernel_rfl)
    (of_decide_eq_true (by kernel_rfl)) (by unfold Func.isWrapper; first | (rw [if_pos (by decide +kernel)]; kernel_rfl) | (rw [if_neg (by decide +kernel)]; exact ⟨rfl, rfl⟩))
    (fun os started H enc _ => remsetPlays_lifted os started H enc)
#print axioms remsetPlays_holds
end Go.Proofs.Ytfjojpfknjdjiaa

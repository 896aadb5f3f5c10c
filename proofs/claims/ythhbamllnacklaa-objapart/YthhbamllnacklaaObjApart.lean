/- The Go function tilthlaw07.ObjApart returns true for every input, and its arguments read afterwards as they read before: the given statement ObjApartSaid, without further conditions. -/
import Derived.Test.YthhbamllnacklaaObjK
import Derived.Test.YthhbamllnacklaaHeadR
namespace Go.Proofs.Ythhbamllnacklaa
open Go.ChangeShapes Go.WideShapes Go.ChangeAt Go.RowKit Go.Deep

set_option maxRecDepth 100000 in
theorem objApart_lifted (os : Os) (started : os.Started) (H : Type) (enc : TypeId × Value → H) :
    ReturnsInHanded {} Try.checked os 7 .any (Rows.objApartSpec.pre6 enc Try.prog Try.f7 Rows.objApartRow.domain false) (Rows.objApartSpec.post enc Try.prog Try.f7 false true false false) := by
  refine returnsInHanded_of_change (C := Try.checked) own started (by kernel_rfl) Try.func7
    (ChangeSpec.witness6 (enc := enc) (C := Try.checked) false ⟨#[], #[.agg #[.int .i64 0, .int .i64 0, .int .i64 0, .int .i64 0, .bool false, .bool false, .bool false], .agg #[.int .i64 0, .int .i64 0, .int .i64 0, .int .i64 0, .bool false, .bool false, .bool false], .slice none 0 0], []⟩ 8 (by kernel_rfl) (by kernel_rfl) (by kernel_rfl) (by kernel_rfl)) ?_
  intro W base args ds gs before hval0 hW _ _
  have hval : ∀ (j : Nat) t v, Try.f7.params[j]? = some t → args[j]? = some v → Value.okWide Try.prog W .any base t v := hval0
  have hW0 := hW
  obtain ⟨p, q, hA0, _, _, _, _⟩ := hW
  have hA : DataW.TrodAll enc Try.prog W 0 (fun _ => true) true Try.f7.params.toList args.toList ds p := hA0
  rw [Try.params7] at hA hval
  obtain ⟨v0, vs0, d0, ds0, pl0, ql0, hargs, rfl, rfl, h0, r0⟩ := trodAll_cons hA
  obtain ⟨v1, vs1, d1, ds1, pl1, ql1, rfl, rfl, rfl, h1, r1⟩ := trodAll_cons r0
  obtain ⟨v2, vs2, d2, ds2, pl2, ql2, rfl, rfl, rfl, h2, r2⟩ := trodAll_cons r1
  obtain ⟨rfl, rfl, rfl⟩ := trodAll_nil r2
  obtain rfl : args = #[v0, v1, v2] := by cases args; simp_all
  obtain ⟨s0, p0, a0, y0, g0, n0, o0, rfl⟩ := open_head (hval 0 24 v0 rfl rfl) h0
  obtain ⟨s1, p1, a1, y1, g1, n1, o1, rfl⟩ := open_head (hval 1 24 v1 rfl rfl) h1
  obtain ⟨A2, N2, c2, xs2, rfl, nc2, cm2, rd2, wf2⟩ := open_rd Try.underlying26 Try.underlying22 (by kernel_rfl) (hval 2 26 v2 rfl rfl) h2
  exact (objApart_walk s0 p0 a0 y0 g0 n0 o0 s1 p1 a1 y1 g1 n1 o1 A2 N2 c2 xs2 W nc2 cm2 rd2).mono fun e W' ⟨he, bel⟩ => ⟨_, he, law_post laidOut (by kernel_rfl) (by kernel_rfl) Try.underlying4 rfl
    (fun ds hds => by rw [Try.params7] at hds; match ds, hds with | [_, _, _], _ => rfl) hW0 bel⟩

theorem objApart_holds : Rows.ObjApartSaid :=
  OpenClaim.holds_of_wide 7 Try.f7 rfl rfl rfl rfl rfl rfl rfl ⟨rfl, rfl, rfl, rfl, rfl⟩ rfl rfl rfl rfl rfl (by kernel_rfl) Try.func7 (by kernel_rfl)
    (of_decide_eq_true (by kernel_rfl)) (by unfold Func.isWrapper; first | (rw [if_pos (by decide +kernel)]; kernel_rfl) | (rw [if_neg (by decide +kernel)]; exact ⟨rfl, rfl⟩))
    (fun os started H enc _ => objApart_lifted os started H enc)
#print axioms objApart_holds
end Go.Proofs.Ythhbamllnacklaa


/- A number as an argument fits its kind. -/
import Derived.Test.YthfbhdffmipmpaaLaw
namespace Go.Proofs.Ythfbhdffmipmpaa

theorem bounds_int {k : IntKind} {n : Int} (h : (Lit.int k n).wf = true) : k.min ≤ n ∧ n ≤ k.max := by
  simpa [Lit.wf] using h
end Go.Proofs.Ythfbhdffmipmpaa

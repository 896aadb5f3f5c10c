
/- A number as an argument fits its kind. -/
import Derived.Test.YtjjjeeffllelaaaLaw
namespace Go.Proofs.Ytjjjeeffllelaaa

theorem bounds_int {k : IntKind} {n : Int} (h : (Lit.int k n).wf = true) : k.min ≤ n ∧ n ≤ k.max := by
  simpa [Lit.wf] using h
end Go.Proofs.Ytjjjeeffllelaaa


/- The nearest number within bounds; of no program's own functions. -/
import Derived.Test.YtjjjeeffllelaaaLaw
namespace Go.Proofs.Ytjjjeeffllelaaa

def cutI (n l m : Int) : Int := if n < l then l else if m < n then m else n

theorem cutI_in {n l m : Int} (h : l ≤ m) : l ≤ cutI n l m ∧ cutI n l m ≤ m := by unfold cutI; split <;> (try split) <;> omega
end Go.Proofs.Ytjjjeeffllelaaa


/- Contracts of the small functions of package conf and of the statements of layer 3: within, in, divides, all. -/
import Derived.Test.YthfbhdffmipmpaaLaw
namespace Go.Proofs.Ythfbhdffmipmpaa
open Go.RowKit

def wiB (n f t : Int) : Bool := decide (f ≤ n ∧ n ≤ t)



def dvB (p n : Int) : Bool := decide (1 ≤ p) && (n.tmod p == 0)


end Go.Proofs.Ythfbhdffmipmpaa

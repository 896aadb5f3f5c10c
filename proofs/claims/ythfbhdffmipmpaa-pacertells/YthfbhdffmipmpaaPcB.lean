
/- Layer 16: the fixed fact. -/
import Derived.Test.YthfbhdffmipmpaaPcA
namespace Go.Proofs.Ythfbhdffmipmpaa
open Go.RowKit

set_option maxHeartbeats 4000000 in
theorem awake16_any (w : World) :
    Calls Try.prog 7 #[] w fun e w' => e = .returned (.bool true) ∧ Below w.heap.size w w' := by
  go_enter Try.func7, Try.ntmps7
  go_wp2_with fail
  refine (quantum_any 7 3 _).mono ?_
  rw [show qI 7 3 = 21 from by decide]
  rintro e w1 ⟨rfl, rfl⟩
  go_wp2_with fail
  refine (quantum_any (-1) 3 _).mono ?_
  rw [show qI (-1) 3 = 0 from by decide]
  rintro e w1 ⟨rfl, rfl⟩
  go_wp2_with fail
  refine (minor_any 0 0 0 0 0 0 0 0 0 0 0 5 0 5 _).mono ?_
  rw [show decide ((5 : Int) ≤ 5) = true from by decide]
  rintro e w1 ⟨rfl, b1⟩
  go_wp2_with fail
  refine (minor_any 0 0 0 0 0 0 0 0 0 0 0 5 0 4 _).mono ?_
  rw [show decide ((5 : Int) ≤ 4) = false from by decide]
  rintro e w2 ⟨rfl, b2⟩
  go_wp2_with fail
  refine (major_any 0 0 0 0 0 0 0 0 0 0 0 0 2 2 _).mono ?_
  rw [show decide ((2 : Int) ≤ 2) = true from by decide]
  rintro e w3 ⟨rfl, b3⟩
  go_wp2_with fail
  refine (major_any 0 0 0 0 0 0 0 0 0 0 0 0 2 3 _).mono ?_
  rw [show decide ((3 : Int) ≤ 2) = false from by decide]
  rintro e w4 ⟨rfl, b4⟩
  go_wp2_with fail
  refine (cut_any 1 2 3 _).mono ?_
  rw [show cutI 1 2 3 = 2 from by decide]
  rintro e w5 ⟨rfl, rfl⟩
  go_wp2
  go_ret
  exact ⟨rfl, below_trans (below_trans (below_trans b1 b2) b3) b4⟩
end Go.Proofs.Ythfbhdffmipmpaa

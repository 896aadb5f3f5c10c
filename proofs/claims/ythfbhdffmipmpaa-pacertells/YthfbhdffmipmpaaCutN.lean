
/- The nearest number within bounds: the document's Cut. -/
import Derived.Test.YthfbhdffmipmpaaCutI
namespace Go.Proofs.Ythfbhdffmipmpaa
open Go.RowKit

set_option maxHeartbeats 1000000 in
theorem cut_any (n l m : Int) (w : World) :
    Calls Try.prog 6 #[.int .i64 n, .int .i64 l, .int .i64 m] w fun e w' => e = .returned (.int .i64 (cutI n l m)) ∧ w = w' := by
  by_cases h0 : n < l
  · have E := Lib.hid (show cutI n l m = l from if_pos h0)
    go_enter Try.func6, Try.ntmps6
    go_wp2
    go_ret
    exact ⟨by rw [E.out]; rfl, rfl⟩
  · by_cases h1 : m < n
    · have E := Lib.hid (show cutI n l m = m from by rw [cutI, if_neg h0, if_pos h1])
      go_enter Try.func6, Try.ntmps6
      go_wp2
      go_ret
      exact ⟨by rw [E.out]; rfl, rfl⟩
    · have E := Lib.hid (show cutI n l m = n from by rw [cutI, if_neg h0, if_neg h1])
      go_enter Try.func6, Try.ntmps6
      go_wp2
      go_ret
      exact ⟨by rw [E.out]; rfl, rfl⟩
end Go.Proofs.Ythfbhdffmipmpaa

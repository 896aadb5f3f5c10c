
/- The walk of PacerEnds. -/
import Derived.Test.YthfbhdffmipmpaaPcB
namespace Go.Proofs.Ythfbhdffmipmpaa
open Go.RowKit

set_option maxHeartbeats 4000000 in
set_option maxRecDepth 100000 in
theorem pacerEnds_walk (ha nu ps pz cd bf st tn lg mi ma na ja words tax : Int) (w : World) :
    Calls Try.prog 5 #[cfV ha nu ps pz cd bf st tn lg mi ma na ja, .int .i64 words, .int .i64 tax] w fun e w' => e = .returned (.bool true) ∧ Below w.heap.size w w' := by
  obtain ⟨q, hq, q0⟩ : ∃ q, qI words tax = q ∧ 0 ≤ q := ⟨_, rfl, (qI_in words tax).1⟩
  have hQ := fun w => quantum_any words tax w
  have hT := fun w => quantum_any 0 tax w
  have hZ := fun w => quantum_any words 0 w
  rw [hq] at hQ
  rw [qI_none] at hT
  rw [qI_free] at hZ
  have HQ := Lib.hid hQ
  have HT := Lib.hid hT
  have HZ := Lib.hid hZ
  clear hQ hT hZ hq
  have hMi := fun w => minor_any ha nu ps pz cd bf st tn lg mi ma na ja na w
  have hMa := fun w => major_any ha nu ps pz cd bf st tn lg mi ma na ja ja w
  rw [show decide (na ≤ na) = true from decide_eq_true (Int.le_refl _)] at hMi
  rw [show decide (ja ≤ ja) = true from decide_eq_true (Int.le_refl _)] at hMa
  have HMi := Lib.hid hMi
  have HMa := Lib.hid hMa
  clear hMi hMa
  go_enter Try.func5, Try.ntmps5
  have kk := Blk.new w #[.int .i64 ha, .int .i64 nu, .int .i64 ps, .int .i64 pz, .int .i64 cd, .int .i64 bf, .int .i64 st, .int .i64 tn, .int .i64 lg, .int .i64 mi, .int .i64 ma, .int .i64 na, .int .i64 ja] 23
  have bb : Below w.heap.size w (w.alloc (.cells #[.int .i64 ha, .int .i64 nu, .int .i64 ps, .int .i64 pz, .int .i64 cd, .int .i64 bf, .int .i64 st, .int .i64 tn, .int .i64 lg, .int .i64 mi, .int .i64 ma, .int .i64 na, .int .i64 ja] 23)) := (Below.refl _ _).alloc (Nat.le_refl _) _
  have KK := Lib.hid kk
  have BB := Lib.hid bb
  clear kk bb
  go_wp2_with fail
  refine (awake16_any _).mono ?_
  rintro e w1 ⟨rfl, b2⟩
  have KK := Lib.hid (KK.out.keep b2)
  have BB := Lib.hid (below_trans BB.out b2)
  clear b2
  obtain ⟨c0, c1, c2, c3, c4, c5, c6, c7, c8, c9, c10, c11, c12⟩ := KK.out.thirteen
  go_wp2_with fail
  clear c0 c1 c2 c3 c4 c5 c6 c7 c8 c9 c10 c11 c12
  refine (HT.out _).mono ?_
  rintro e w1 ⟨rfl, rfl⟩
  go_wp2_with fail
  refine (HZ.out _).mono ?_
  rintro e w1 ⟨rfl, rfl⟩
  go_wp2_with fail
  refine (HQ.out _).mono ?_
  rintro e w1 ⟨rfl, rfl⟩
  obtain ⟨c0, c1, c2, c3, c4, c5, c6, c7, c8, c9, c10, c11, c12⟩ := KK.out.thirteen
  go_wp2_with fail
  clear c0 c1 c2 c3 c4 c5 c6 c7 c8 c9 c10 c11 c12
  refine (HMi.out _).mono ?_
  rintro e w1 ⟨rfl, b2⟩
  have KK := Lib.hid (KK.out.keep b2)
  have BB := Lib.hid (below_trans BB.out b2)
  clear b2
  obtain ⟨c0, c1, c2, c3, c4, c5, c6, c7, c8, c9, c10, c11, c12⟩ := KK.out.thirteen
  go_wp2_with fail
  clear c0 c1 c2 c3 c4 c5 c6 c7 c8 c9 c10 c11 c12
  refine (HMa.out _).mono ?_
  rintro e w1 ⟨rfl, b2⟩
  have KK := Lib.hid (KK.out.keep b2)
  have BB := Lib.hid (below_trans BB.out b2)
  clear b2
  go_wp2_with fail
  refine (quantum_any 1 1 _).mono ?_
  rw [show qI 1 1 = 1 from by decide]
  rintro e w1 ⟨rfl, rfl⟩
  go_wp2
  go_ret
  exact ⟨rfl, BB.out⟩
end Go.Proofs.Ythfbhdffmipmpaa

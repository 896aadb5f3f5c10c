/- Contract of the fixed fact (awake); the walks of ConfChecks, ConfMost. -/
import Derived.Test.YtehnpljegpiilaaConfD
namespace Go.Proofs.Ytehnpljegpiilaa
open Go.RowKit

theorem may_yes : mayB 4 32 3 16 8 0 2 2 5 2 1 0 0 = true := by decide
theorem may_no : mayB 0 0 0 0 0 0 0 0 0 0 0 0 0 = false := by decide
theorem most_at : mostI 4 32 16 2 5 2 1 3 = 153612 := by decide

theorem awk_check (w : World) : Calls Try.prog 9 #[cfV 4 32 3 16 8 0 2 2 5 2 1 0 0] w fun e w' => e = .returned (.int .i64 0) ∧ Below w.heap.size w w' := by
  have h := check_any 4 32 3 16 8 0 2 2 5 2 1 0 0 w
  rw [may_yes] at h
  exact h
theorem awk_none (w : World) : Calls Try.prog 9 #[cfV 0 0 0 0 0 0 0 0 0 0 0 0 0] w fun e w' => e = .returned (.int .i64 1) ∧ Below w.heap.size w w' := by
  have h := check_any 0 0 0 0 0 0 0 0 0 0 0 0 0 w
  rw [may_no] at h
  exact h
theorem awk_words (w : World) : Calls Try.prog 12 #[cfV 4 32 3 16 8 0 2 2 5 2 1 0 0] w fun e w' => e = .returned (.int .i64 113) ∧ Below w.heap.size w w' := words_any 4 32 3 16 8 0 2 2 5 2 1 0 0 w ((mayB_iff ..).1 may_yes)
theorem awk_half (w : World) : Calls Try.prog 10 #[cfV 4 32 3 16 8 0 2 2 5 2 1 0 0, .int .i64 1] w fun e w' => e = .returned (.int .i64 33) ∧ Below w.heap.size w w' := half_any 4 32 3 16 8 0 2 2 5 2 1 0 0 1 w (by omega) (by omega)
theorem awk_mature (w : World) : Calls Try.prog 11 #[cfV 4 32 3 16 8 0 2 2 5 2 1 0 0] w fun e w' => e = .returned (.int .i64 65) ∧ Below w.heap.size w w' := mature_any 4 32 3 16 8 0 2 2 5 2 1 0 0 w (by omega) (by omega)
theorem awk_most (w : World) : Calls Try.prog 13 #[cfV 4 32 3 16 8 0 2 2 5 2 1 0 0, .int .i64 3] w fun e w' => e = .returned (.int .i64 153612) ∧ Below w.heap.size w w' := by
  have h := most_any 4 32 3 16 8 0 2 2 5 2 1 0 0 3 w ((mayB_iff ..).1 may_yes)
  rw [most_at] at h
  exact h

set_option maxHeartbeats 4000000 in
set_option maxRecDepth 100000 in
theorem awake3_any (w : World) :
    Calls Try.prog 8 #[] w fun e w' => e = .returned (.bool true) ∧ Below w.heap.size w w' := by
  go_enter Try.func8, Try.ntmps8
  go_wp2_with fail
  refine (awk_check _).mono ?_
  rintro e w1 ⟨rfl, b1⟩
  have k1 := (Blk.new w _ _).keep b1
  obtain ⟨c0, c1, c2, c3, c4, c5, c6, c7, c8, c9, c10, c11, c12⟩ := k1.thirteen
  go_wp2_with fail
  refine (awk_words _).mono ?_
  rintro e w2 ⟨rfl, b2⟩
  clear c0 c1 c2 c3 c4 c5 c6 c7 c8 c9 c10 c11 c12
  have k2 := k1.keep b2
  obtain ⟨c0, c1, c2, c3, c4, c5, c6, c7, c8, c9, c10, c11, c12⟩ := k2.thirteen
  go_wp2_with fail
  refine (awk_half _).mono ?_
  rintro e w3 ⟨rfl, b3⟩
  clear c0 c1 c2 c3 c4 c5 c6 c7 c8 c9 c10 c11 c12
  have k3 := k2.keep b3
  obtain ⟨c0, c1, c2, c3, c4, c5, c6, c7, c8, c9, c10, c11, c12⟩ := k3.thirteen
  go_wp2_with fail
  refine (awk_mature _).mono ?_
  rintro e w4 ⟨rfl, b4⟩
  clear c0 c1 c2 c3 c4 c5 c6 c7 c8 c9 c10 c11 c12
  have k4 := k3.keep b4
  obtain ⟨c0, c1, c2, c3, c4, c5, c6, c7, c8, c9, c10, c11, c12⟩ := k4.thirteen
  go_wp2_with fail
  refine (awk_most _).mono ?_
  rintro e w5 ⟨rfl, b5⟩
  clear c0 c1 c2 c3 c4 c5 c6 c7 c8 c9 c10 c11 c12
  go_wp2_with fail
  refine (awk_none _).mono ?_
  rintro e w6 ⟨rfl, b6⟩
  go_wp2
  go_ret
  exact ⟨rfl, below_trans (below_trans (below_trans (below_trans (below_trans (below_alloc_trans _ b1) b2) b3) b4) b5) b6⟩

set_option maxHeartbeats 4000000 in
set_option maxRecDepth 100000 in
theorem confChecks_walk (ha nu ps pz cd bf st tn lg mi ma na ja : Int) (w : World) :
    Calls Try.prog 3 #[cfV ha nu ps pz cd bf st tn lg mi ma na ja] w fun e w' => e = .returned (.bool true) ∧ Below w.heap.size w w' := by
  have hC := check_any ha nu ps pz cd bf st tn lg mi ma na ja
  have hM := lawMay_any ha nu ps pz cd bf st tn lg mi ma na ja
  cases hm : mayB ha nu ps pz cd bf st tn lg mi ma na ja
  all_goals
    rw [hm] at hC hM
    have HC := Lib.hid hC
    have HM := Lib.hid hM
    clear hC hM hm
    go_enter Try.func3, Try.ntmps3
    go_wp2_with fail
    refine (HM.out _).mono ?_
    rintro e w1 ⟨rfl, b1⟩
    have k1 := (Blk.new w _ _).keep b1
    go_wp2_with fail
    refine (awake3_any _).mono ?_
    rintro e w2 ⟨rfl, b2⟩
    have k2 := k1.keep b2
    obtain ⟨c0, c1, c2, c3, c4, c5, c6, c7, c8, c9, c10, c11, c12⟩ := k2.thirteen
    go_wp2_with fail
    refine (HC.out _).mono ?_
    rintro e w3 ⟨rfl, b3⟩
    clear c0 c1 c2 c3 c4 c5 c6 c7 c8 c9 c10 c11 c12
    go_wp2
    go_ret
    exact ⟨rfl, below_trans (below_trans (below_alloc_trans _ b1) b2) b3⟩
end Go.Proofs.Ytehnpljegpiilaa

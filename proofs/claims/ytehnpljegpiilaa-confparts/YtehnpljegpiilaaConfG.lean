/- The walk of ConfParts. -/
import Derived.Test.YtehnpljegpiilaaConfE
namespace Go.Proofs.Ytehnpljegpiilaa
open Go.RowKit

set_option maxHeartbeats 4000000 in
set_option maxRecDepth 100000 in
theorem confParts_walk (ha nu ps pz cd bf st tn lg mi ma na ja n : Int) (w : World) :
    Calls Try.prog 4 #[cfV ha nu ps pz cd bf st tn lg mi ma na ja, .int .i64 n] w fun e w' => e = .returned (.bool true) ∧ Below w.heap.size w w' := by
  have hM := lawMay_any ha nu ps pz cd bf st tn lg mi ma na ja
  cases hm : mayB ha nu ps pz cd bf st tn lg mi ma na ja
  · rw [hm] at hM
    have HM := Lib.hid hM
    clear hM hm
    go_enter Try.func4, Try.ntmps4
    go_wp2_with fail
    refine (HM.out _).mono ?_
    rintro e w1 ⟨rfl, b1⟩
    go_wp2_with fail
    refine (awake3_any _).mono ?_
    rintro e w2 ⟨rfl, b2⟩
    go_wp2
    go_ret
    exact ⟨rfl, below_trans (below_alloc_trans _ b1) b2⟩
  · rw [hm] at hM
    have h := (mayB_iff ..).1 hm
    have nu0 := h.nu0
    have nu1 := h.nu1
    obtain ⟨m0, m1⟩ := mul_in h.ps0 (by have := h.pz0; omega) h.ps1 h.pz1
    have hw1 : IntKind.i64.wrap (1 + nu + nu) = 1 + 2 * nu := by rw [wrap_in _ (by omega) (by omega)]; omega
    have hw2 : IntKind.i64.wrap (ps * pz) = ps * pz := wrap_in _ (by omega) (by omega)
    have hw3 : IntKind.i64.wrap (1 + 2 * nu + ps * pz) = 1 + 2 * nu + ps * pz := wrap_in _ (by omega) (by omega)
    have hV : 1 + 2 * nu + ps * pz ≤ 1048576 := by omega
    have hW := fun w => words_any ha nu ps pz cd bf st tn lg mi ma na ja w h
    have hR := fun w => mature_any ha nu ps pz cd bf st tn lg mi ma na ja w nu0 nu1
    have hH := fun w => half_any ha nu ps pz cd bf st tn lg mi ma na ja 1 w nu0 nu1
    rw [show halfI nu 1 = 1 + nu from rfl] at hH
    have hN := fun w => half_any ha nu ps pz cd bf st tn lg mi ma na ja n w nu0 nu1
    have hN2 : halfI nu n = if n.tmod 2 = 0 then 1 else 1 + nu := by
      unfold halfI
      by_cases e : n.tmod 2 = 0
      · rw [if_pos e, if_neg]
        have := Int.dvd_of_tmod_eq_zero e
        omega
      · rw [if_neg e, if_pos]
        have : ¬ (2 : Int) ∣ n := fun d => e (Int.tmod_eq_zero_of_dvd d)
        omega
    rw [hN2] at hN
    clear hN2
    have HM := Lib.hid hM
    have HW := Lib.hid hW
    have HR := Lib.hid hR
    have HH := Lib.hid hH
    clear hM hm h hW hR hH
    by_cases ht : n.tmod 2 = 0
    all_goals
      first | rw [if_pos ht] at hN | rw [if_neg ht] at hN
      have HN := Lib.hid hN
      clear hN
      go_enter Try.func4, Try.ntmps4
      go_wp2_with fail
      refine (HM.out _).mono ?_
      rintro e w1 ⟨rfl, b1⟩
      have kk := (Blk.new w _ _).keep b1
      have bb := below_alloc_trans _ b1
      clear b1
      obtain ⟨q0, q1, q2, q3, q4, q5, q6, q7, q8, q9, q10, q11, q12⟩ := kk.thirteen
      go_wp2_with fail
      clear q0 q1 q2 q3 q4 q5 q6 q7 q8 q9 q10 q11 q12
      have kk := kk.drew
      have bb := bb.drew
      go_region_held3 (fun w' => w'.cell? ⟨w.heap.size, 0, none⟩ = some (.int .i64 ha) ∧ w'.cell? ⟨w.heap.size, 1, none⟩ = some (.int .i64 nu) ∧ w'.cell? ⟨w.heap.size, 2, none⟩ = some (.int .i64 ps) ∧ w'.cell? ⟨w.heap.size, 3, none⟩ = some (.int .i64 pz) ∧ w'.cell? ⟨w.heap.size, 4, none⟩ = some (.int .i64 cd) ∧ w'.cell? ⟨w.heap.size, 5, none⟩ = some (.int .i64 bf) ∧ w'.cell? ⟨w.heap.size, 6, none⟩ = some (.int .i64 st) ∧ w'.cell? ⟨w.heap.size, 7, none⟩ = some (.int .i64 tn) ∧ w'.cell? ⟨w.heap.size, 8, none⟩ = some (.int .i64 lg) ∧ w'.cell? ⟨w.heap.size, 9, none⟩ = some (.int .i64 mi) ∧ w'.cell? ⟨w.heap.size, 10, none⟩ = some (.int .i64 ma) ∧ w'.cell? ⟨w.heap.size, 11, none⟩ = some (.int .i64 na) ∧ w'.cell? ⟨w.heap.size, 12, none⟩ = some (.int .i64 ja)) (exact kk.thirteen) (first
      | (go_at_call 8; refine (awake3_any _).mono ?_; rintro e v1 ⟨rfl, b2⟩; have kk := kk.keep b2; have bb := below_trans bb b2; clear b2)
      | (go_at_call_of 10 (Value.int IntKind.i64 1); refine (HH.out _).mono ?_; rintro e v1 ⟨rfl, b2⟩; have kk := kk.keep b2; have bb := below_trans bb b2; clear b2)
      | (go_at_call 10; refine (HN.out _).mono ?_; rintro e v1 ⟨rfl, b2⟩; have kk := kk.keep b2; have bb := below_trans bb b2; clear b2)
      | (go_at_call 11; refine (HR.out _).mono ?_; rintro e v1 ⟨rfl, b2⟩; have kk := kk.keep b2; have bb := below_trans bb b2; clear b2)
      | (go_at_call 12; refine (HW.out _).mono ?_; rintro e v1 ⟨rfl, b2⟩; have kk := kk.keep b2; have bb := below_trans bb b2; clear b2))
      all_goals
        go_wp2
        go_ret
        exact ⟨rfl, bb⟩
end Go.Proofs.Ytehnpljegpiilaa

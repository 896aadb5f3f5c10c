
/- The walk of PacerTells. -/
import Derived.Test.YthfbhdffmipmpaaPcB
import Derived.Deep.RegionHeld3
namespace Go.Proofs.Ythfbhdffmipmpaa
open Go.RowKit

set_option maxHeartbeats 4000000 in
set_option maxRecDepth 100000 in
theorem pacerTells_walk (ha nu ps pz cd bf st tn lg mi ma na ja words tax used free : Int) (w : World) :
    Calls Try.prog 3 #[cfV ha nu ps pz cd bf st tn lg mi ma na ja, .int .i64 words, .int .i64 tax, .int .i64 used, .int .i64 free] w fun e w' => e = .returned (.bool true) ∧ Below w.heap.size w w' := by
  have hq := qI_in words tax
  have HW := Lib.hid (show IntKind.i64.wrap (cutI words 0 1048576 * cutI tax 0 64) = qI words tax by unfold qI at hq ⊢; generalize cutI words 0 1048576 * cutI tax 0 64 = z at hq ⊢; rw [IntKind.wrap_i64]; omega)
  obtain ⟨q, hQ⟩ : ∃ q, qI words tax = q := ⟨_, rfl⟩
  have hQw := fun w => quantum_any words tax w
  rw [hQ] at HW hQw
  have HQ := Lib.hid hQw
  clear hq hQ hQw
  obtain ⟨dm, hdm⟩ : ∃ d, decide (na ≤ used) = d := ⟨_, rfl⟩
  obtain ⟨dj, hdj⟩ : ∃ d, decide (free ≤ ja) = d := ⟨_, rfl⟩
  have hMi := fun w => minor_any ha nu ps pz cd bf st tn lg mi ma na ja used w
  have hMa := fun w => major_any ha nu ps pz cd bf st tn lg mi ma na ja free w
  rw [hdm] at hMi
  rw [hdj] at hMa
  have HMi := Lib.hid hMi
  have HMa := Lib.hid hMa
  clear hMi hMa
  go_enter Try.func3, Try.ntmps3
  have kk := Blk.new w #[.int .i64 ha, .int .i64 nu, .int .i64 ps, .int .i64 pz, .int .i64 cd, .int .i64 bf, .int .i64 st, .int .i64 tn, .int .i64 lg, .int .i64 mi, .int .i64 ma, .int .i64 na, .int .i64 ja] 23
  have bb : Below w.heap.size w (w.alloc (.cells #[.int .i64 ha, .int .i64 nu, .int .i64 ps, .int .i64 pz, .int .i64 cd, .int .i64 bf, .int .i64 st, .int .i64 tn, .int .i64 lg, .int .i64 mi, .int .i64 ma, .int .i64 na, .int .i64 ja] 23)) := (Below.refl _ _).alloc (Nat.le_refl _) _
  have KK := Lib.hid kk
  have BB := Lib.hid bb
  clear kk bb
  go_wp2_with fail
  refine (cut_any words 0 1048576 _).mono ?_
  rintro e w1 ⟨rfl, rfl⟩
  go_wp2_with fail
  refine (cut_any tax 0 64 _).mono ?_
  rintro e w1 ⟨rfl, rfl⟩
  have hq : IntKind.i64.wrap (cutI words 0 1048576 * cutI tax 0 64) = q := HW.out
  go_wp2_with fail
  clear hq
  have kk := KK.out.drew
  have bb := BB.out.drew
  go_region_held3 (fun w' => w'.cell? ⟨w.heap.size, 0, none⟩ = some (.int .i64 ha) ∧ w'.cell? ⟨w.heap.size, 1, none⟩ = some (.int .i64 nu) ∧ w'.cell? ⟨w.heap.size, 2, none⟩ = some (.int .i64 ps) ∧ w'.cell? ⟨w.heap.size, 3, none⟩ = some (.int .i64 pz) ∧ w'.cell? ⟨w.heap.size, 4, none⟩ = some (.int .i64 cd) ∧ w'.cell? ⟨w.heap.size, 5, none⟩ = some (.int .i64 bf) ∧ w'.cell? ⟨w.heap.size, 6, none⟩ = some (.int .i64 st) ∧ w'.cell? ⟨w.heap.size, 7, none⟩ = some (.int .i64 tn) ∧ w'.cell? ⟨w.heap.size, 8, none⟩ = some (.int .i64 lg) ∧ w'.cell? ⟨w.heap.size, 9, none⟩ = some (.int .i64 mi) ∧ w'.cell? ⟨w.heap.size, 10, none⟩ = some (.int .i64 ma) ∧ w'.cell? ⟨w.heap.size, 11, none⟩ = some (.int .i64 na) ∧ w'.cell? ⟨w.heap.size, 12, none⟩ = some (.int .i64 ja)) (exact kk.thirteen) (first
    | (go_at_call 7; refine (awake16_any _).mono ?_; rintro e v1 ⟨rfl, b2⟩; have kk := kk.keep b2; have bb := below_trans bb b2; clear b2)
    | (go_at_call 8; refine (HQ.out _).mono ?_; rintro e v1 ⟨rfl, rfl⟩)
    | (go_at_call 9; refine (HMi.out _).mono ?_; rintro e v1 ⟨rfl, b2⟩; have kk := kk.keep b2; have bb := below_trans bb b2; clear b2)
    | (go_at_call 10; refine (HMa.out _).mono ?_; rintro e v1 ⟨rfl, b2⟩; have kk := kk.keep b2; have bb := below_trans bb b2; clear b2))
  all_goals
    go_wp2
    go_ret
    exact ⟨by subst hdm hdj; simp, bb⟩
end Go.Proofs.Ythfbhdffmipmpaa

/- Contracts of the document's Good and Word. -/
import Derived.Test.YthhbamllnacklaaHeadC
namespace Go.Proofs.Ythhbamllnacklaa
open Go.RowKit

set_option maxHeartbeats 2000000 in
theorem refGood_any (s p a y : Int) (g n o : Bool) (w : World) :
    Calls Try.prog 10 #[hdV s p a y g n o] w fun e w' => e = .returned (.bool (goodB s p a y)) ∧ Below w.heap.size w w' := by
  by_cases h1 : s < 0
  · have e : goodB s p a y = false := by rw [Bool.eq_false_iff]; intro h; have := (goodB_iff ..).1 h; omega
    rw [e]; clear e
    go_enter Try.func10, Try.ntmps10
    go_wp2
    go_ret
    exact ⟨rfl, (Below.refl _ _).alloc (Nat.le_refl _) _⟩
  by_cases h2 : 64 < s
  · have e : goodB s p a y = false := by rw [Bool.eq_false_iff]; intro h; have := (goodB_iff ..).1 h; omega
    rw [e]; clear e
    go_enter Try.func10, Try.ntmps10
    go_wp2
    go_ret
    exact ⟨rfl, (Below.refl _ _).alloc (Nat.le_refl _) _⟩
  by_cases h3 : p < 0
  · have e : goodB s p a y = false := by rw [Bool.eq_false_iff]; intro h; have := (goodB_iff ..).1 h; omega
    rw [e]; clear e
    go_enter Try.func10, Try.ntmps10
    go_wp2
    go_ret
    exact ⟨rfl, (Below.refl _ _).alloc (Nat.le_refl _) _⟩
  by_cases h4 : s < p
  · have e : goodB s p a y = false := by rw [Bool.eq_false_iff]; intro h; have := (goodB_iff ..).1 h; omega
    rw [e]; clear e
    go_enter Try.func10, Try.ntmps10
    go_wp2
    go_ret
    exact ⟨rfl, (Below.refl _ _).alloc (Nat.le_refl _) _⟩
  by_cases h5 : a < 0
  · have e : goodB s p a y = false := by rw [Bool.eq_false_iff]; intro h; have := (goodB_iff ..).1 h; omega
    rw [e]; clear e
    go_enter Try.func10, Try.ntmps10
    go_wp2
    go_ret
    exact ⟨rfl, (Below.refl _ _).alloc (Nat.le_refl _) _⟩
  by_cases h6 : 7 < a
  · have e : goodB s p a y = false := by rw [Bool.eq_false_iff]; intro h; have := (goodB_iff ..).1 h; omega
    rw [e]; clear e
    go_enter Try.func10, Try.ntmps10
    go_wp2
    go_ret
    exact ⟨rfl, (Below.refl _ _).alloc (Nat.le_refl _) _⟩
  by_cases h7 : y < 0
  · have e : goodB s p a y = false := by rw [Bool.eq_false_iff]; intro h; have := (goodB_iff ..).1 h; omega
    rw [e]; clear e
    go_enter Try.func10, Try.ntmps10
    go_wp2
    go_ret
    exact ⟨rfl, (Below.refl _ _).alloc (Nat.le_refl _) _⟩
  by_cases h8 : 1 < y
  · have e : goodB s p a y = false := by rw [Bool.eq_false_iff]; intro h; have := (goodB_iff ..).1 h; omega
    rw [e]; clear e
    have hd : decide (y ≤ 1) = false := by rw [decide_eq_false_iff_not]; omega
    go_enter Try.func10, Try.ntmps10
    go_wp2
    go_ret
    exact ⟨rfl, (Below.refl _ _).alloc (Nat.le_refl _) _⟩
  · have e : goodB s p a y = true := (goodB_iff ..).2 (by omega)
    rw [e]; clear e
    go_enter Try.func10, Try.ntmps10
    go_wp2
    go_ret
    exact ⟨rfl, (Below.refl _ _).alloc (Nat.le_refl _) _⟩

theorem ret_int {k : IntKind} {a b : Int} (h : a = b) : Ending.returned (.int k a) = .returned (.int k b) := by rw [h]

set_option maxHeartbeats 2000000 in
theorem refWord_any (s p a y : Int) (g n o : Bool) (w : World) (h : goodB s p a y = true) :
    Calls Try.prog 14 #[hdV s p a y g n o] w fun e w' => e = .returned (.int .u64 (wordI s p a y g n o)) ∧ Below w.heap.size w w' := by
  obtain ⟨s0, s1, p0, p1, a0, a1, y0, y1⟩ := (goodB_iff ..).1 h
  clear h
  unfold wordI
  cases g <;> cases n <;> cases o
  all_goals
    go_enter Try.func14, Try.ntmps14
    go_wp2
    go_ret
    exact ⟨ret_int (by simp only [flagI, if_true, if_false, Bool.false_eq_true]; omega), (Below.refl _ _).alloc (Nat.le_refl _) _⟩
end Go.Proofs.Ythhbamllnacklaa

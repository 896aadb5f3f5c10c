
/- Layer 16: contracts of pacer's functions, and of the fixed fact. -/
import Derived.Test.YthfbhdffmipmpaaConfB
import Derived.Test.YthfbhdffmipmpaaCutN
namespace Go.Proofs.Ythfbhdffmipmpaa
open Go.RowKit

set_option maxHeartbeats 1000000 in
theorem pcNearest_any (n m : Int) (h0 : 0 ≤ m) (w : World) :
    Calls Try.prog 11 #[.int .i64 n, .int .i64 m] w fun e w' => e = .returned (.int .i64 (cutI n 0 m)) ∧ w = w' := by
  by_cases h1 : n < 0
  · have E := Lib.hid (show cutI n 0 m = 0 from if_pos h1)
    go_enter Try.func11, Try.ntmps11
    go_wp2
    go_ret
    exact ⟨by rw [E.out]; simp_all <;> omega, rfl⟩
  · by_cases h2 : m < n
    · have E := Lib.hid (show cutI n 0 m = m by rw [cutI, if_neg h1, if_pos h2])
      go_enter Try.func11, Try.ntmps11
      go_wp2
      go_ret
      exact ⟨by rw [E.out]; simp_all <;> omega, rfl⟩
    · have E := Lib.hid (show cutI n 0 m = n by rw [cutI, if_neg h1, if_neg h2])
      go_enter Try.func11, Try.ntmps11
      go_wp2
      go_ret
      exact ⟨by rw [E.out]; simp_all <;> omega, rfl⟩

def qI (words tax : Int) : Int := cutI words 0 1048576 * cutI tax 0 64

theorem qI_in (a b : Int) : 0 ≤ qI a b ∧ qI a b ≤ 67108864 := by
  have h1 := cutI_in (n := a) (l := 0) (m := 1048576) (by omega)
  have h2 := cutI_in (n := b) (l := 0) (m := 64) (by omega)
  have h3 : cutI a 0 1048576 * cutI b 0 64 ≤ 1048576 * 64 := Int.mul_le_mul h1.2 h2.2 h2.1 (by omega)
  have h4 := Int.mul_nonneg h1.1 h2.1
  unfold qI
  omega

theorem cutI_mono {a b m : Int} (h : a ≤ b) (hm : 0 ≤ m) : cutI a 0 m ≤ cutI b 0 m := by
  unfold cutI
  split <;> split <;> (try split) <;> (try split) <;> omega

theorem qI_mono {a b c d : Int} (h1 : a ≤ b) (h2 : c ≤ d) : qI a c ≤ qI b d :=
  Int.mul_le_mul (cutI_mono h1 (by omega)) (cutI_mono h2 (by omega)) (cutI_in (n := c) (l := 0) (m := 64) (by omega)).1 (cutI_in (n := b) (l := 0) (m := 1048576) (by omega)).1

theorem qI_none (b : Int) : qI 0 b = 0 := by
  show cutI 0 0 1048576 * _ = 0
  rw [show cutI 0 0 1048576 = 0 from by decide, Int.zero_mul]
theorem qI_free (a : Int) : qI a 0 = 0 := by
  show _ * cutI 0 0 64 = 0
  rw [show cutI 0 0 64 = 0 from by decide, Int.mul_zero]

set_option maxHeartbeats 1000000 in
theorem quantum_any (a b : Int) (w : World) :
    Calls Try.prog 8 #[.int .i64 a, .int .i64 b] w fun e w' => e = .returned (.int .i64 (qI a b)) ∧ w = w' := by
  have hq := qI_in a b
  unfold qI at hq
  have HW := Lib.hid (show wrap64 (cutI a 0 1048576 * cutI b 0 64) = qI a b by unfold qI; generalize cutI a 0 1048576 * cutI b 0 64 = z at hq ⊢; unfold wrap64; omega)
  clear hq
  go_enter Try.func8, Try.ntmps8
  go_wp2_with fail
  refine (pcNearest_any a 1048576 (by omega) _).mono ?_
  rintro e w1 ⟨rfl, rfl⟩
  go_wp2_with fail
  refine (pcNearest_any b 64 (by omega) _).mono ?_
  rintro e w1 ⟨rfl, rfl⟩
  go_wp2
  go_ret
  exact ⟨congrArg (fun z => Ending.returned (.int .i64 z)) HW.out, rfl⟩

set_option maxHeartbeats 1000000 in
theorem minor_any (ha nu ps pz cd bf st tn lg mi ma na ja n : Int) (w : World) :
    Calls Try.prog 9 #[cfV ha nu ps pz cd bf st tn lg mi ma na ja, .int .i64 n] w fun e w' => e = .returned (.bool (decide (na ≤ n))) ∧ Below w.heap.size w w' := by
  go_enter Try.func9, Try.ntmps9
  go_wp2
  go_ret
  exact ⟨by simp, (Below.refl _ _).alloc (Nat.le_refl _) _⟩

set_option maxHeartbeats 1000000 in
theorem major_any (ha nu ps pz cd bf st tn lg mi ma na ja n : Int) (w : World) :
    Calls Try.prog 10 #[cfV ha nu ps pz cd bf st tn lg mi ma na ja, .int .i64 n] w fun e w' => e = .returned (.bool (decide (n ≤ ja))) ∧ Below w.heap.size w w' := by
  go_enter Try.func10, Try.ntmps10
  go_wp2
  go_ret
  exact ⟨by simp, (Below.refl _ _).alloc (Nat.le_refl _) _⟩
end Go.Proofs.Ythfbhdffmipmpaa

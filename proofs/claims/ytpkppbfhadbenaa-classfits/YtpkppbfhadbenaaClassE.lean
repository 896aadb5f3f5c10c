/- The walks of ClassTight and ClassFits. -/
import Derived.Test.YtpkppbfhadbenaaClassD
namespace Go.Proofs.Ytpkppbfhadbenaa
open Go.RowKit

set_option maxHeartbeats 4000000 in
theorem classTight_walk (a b : Int) (a0 : 0 ≤ a) (a1 : a ≤ 4294967295) (b0 : 0 ≤ b) (b1 : b ≤ 4294967295) (w : World) :
    Calls Try.prog 6 #[.int .u32 a, .int .u32 b] w fun e w' => e = .returned (.bool true) ∧ w = w' := by
  have main : ∀ x y : Int, x ≤ y → 0 ≤ x → y ≤ 4294967295 → ∃ n r, n ≥ x ∧ n < 2 * x + 7 ∧ r ≥ n ∧ 4 ≤ n ∧ r ≤ 1099511627776 ∧
      Hid (Calls Try.prog 10 #[.int .i64 x] w fun e w' => e = .returned (.int .i64 n) ∧ w = w') ∧
      Hid (Calls Try.prog 10 #[.int .i64 y] w fun e w' => e = .returned (.int .i64 r) ∧ w = w') ∧
      Hid (Calls Try.prog 10 #[.int .i64 n] w fun e w' => e = .returned (.int .i64 n) ∧ w = w') := fun x y hxy hx hy =>
    ⟨roundI x, roundI y, roundI_ge (by omega), roundI_tight hx (by omega), roundI_mono hxy, (roundI_in x).1, (roundI_in y).2, Lib.hid (round_any x w), Lib.hid (round_any y w),
      Lib.hid (retE (round_any (roundI x) w) (congrArg (Value.int .i64) (roundI_again x)))⟩
  by_cases g : b < a
  · obtain ⟨n, r, h1, h2, h3, h4, h5, HX, HY, HN⟩ := main b a (by omega) b0 a1
    clear main
    go_enter Try.func6, Try.ntmps6
    go_wp2_with fail
    refine HX.out.mono ?_
    rintro e w1 ⟨rfl, rfl⟩
    go_wp2_with fail
    refine (awake4_any _).mono ?_
    rintro e w1 ⟨rfl, rfl⟩
    go_wp2_with fail
    refine HY.out.mono ?_
    rintro e w1 ⟨rfl, rfl⟩
    go_wp2_with fail
    refine HN.out.mono ?_
    rintro e w1 ⟨rfl, rfl⟩
    go_wp2
    go_ret
    exact ⟨rfl, rfl⟩
  · obtain ⟨n, r, h1, h2, h3, h4, h5, HX, HY, HN⟩ := main a b (by omega) a0 b1
    clear main
    go_enter Try.func6, Try.ntmps6
    go_wp2_with fail
    refine HX.out.mono ?_
    rintro e w1 ⟨rfl, rfl⟩
    go_wp2_with fail
    refine (awake4_any _).mono ?_
    rintro e w1 ⟨rfl, rfl⟩
    go_wp2_with fail
    refine HY.out.mono ?_
    rintro e w1 ⟨rfl, rfl⟩
    go_wp2_with fail
    refine HN.out.mono ?_
    rintro e w1 ⟨rfl, rfl⟩
    go_wp2
    go_ret
    exact ⟨rfl, rfl⟩

theorem cellsI_in {p s : Int} (p0 : 1 ≤ p) (s0 : 1 ≤ s) : 0 ≤ cellsI p s ∧ cellsI p s ≤ p ∧ 0 ≤ cellsI p s * s ∧ cellsI p s * s ≤ p ∧ p < (cellsI p s + 1) * s ∧ (cellsI p s + 1) * s ≤ p + s := by
  rw [show cellsI p s = p / s from if_neg (by omega)]
  have e := Int.mul_ediv_add_emod p s
  have m0 : 0 ≤ p % s := Int.emod_nonneg p (by omega)
  have m1 := Int.emod_lt_of_pos p (show 0 < s by omega)
  have q0 : 0 ≤ p / s := Int.ediv_nonneg (by omega) (by omega)
  have q1 : p / s ≤ p := Int.ediv_le_self s (by omega)
  have z : 0 ≤ s * (p / s) := Int.mul_nonneg (by omega) q0
  have x : (p / s) * s = s * (p / s) := Int.mul_comm _ _
  have y : (p / s + 1) * s = s * (p / s) + s := by rw [Int.add_mul, Int.mul_comm, Int.one_mul]
  omega

theorem cells_two {p s : Int} (p0 : 1 ≤ p) (s0 : 1 ≤ s) (h : s ≤ p / 2) : 2 ≤ cellsI p s := by
  rw [show cellsI p s = p / s from if_neg (by omega)]
  exact (Int.le_ediv_iff_mul_le (by omega)).2 (by omega)

set_option maxHeartbeats 4000000 in
theorem classFits_walk (a b : Int) (a0 : 0 ≤ a) (b0 : 0 ≤ b) (b1 : b ≤ 65535) (w : World) :
    Calls Try.prog 8 #[.int .u16 a, .int .u16 b] w fun e w' => e = .returned (.bool true) ∧ w = w' := by
  have ht : a.tmod 1000 = a % 1000 := Int.tmod_eq_emod_of_nonneg a0
  obtain ⟨c, hc⟩ : ∃ c, a % 1000 = c := ⟨_, rfl⟩
  have c0 : 0 ≤ c ∧ c ≤ 999 := by omega
  rw [hc] at ht
  clear hc
  have main : ∃ n k m x l, 4 ≤ n ∧ n ≤ 131079 ∧ 0 ≤ k ∧ k ≤ 1000 ∧ 0 ≤ k * n ∧ k * n ≤ c + 1 ∧ c + 1 < (k + 1) * n ∧ (k + 1) * n ≤ c + 1 + n ∧
      1 ≤ m ∧ m ≤ 65536 ∧ b + 1 ≤ m * (c + 1) ∧ (m - 1) * (c + 1) < b + 1 ∧ m * (c + 1) < b + 1 + (c + 1) ∧ b + 1 ≤ x ∧ (l = true ∨ 2 ≤ k) ∧
      Hid (Calls Try.prog 10 #[.int .i64 (b + 1)] w fun e w' => e = .returned (.int .i64 n) ∧ w = w') ∧
      Hid (Calls Try.prog 12 #[.int .i64 (c + 1), .int .i64 n] w fun e w' => e = .returned (.int .i64 k) ∧ w = w') ∧
      Hid (Calls Try.prog 13 #[.int .i64 (c + 1), .int .i64 (b + 1)] w fun e w' => e = .returned (.int .i64 m) ∧ w = w') ∧
      Hid (Calls Try.prog 16 #[.int .i64 (c + 1), .int .i64 (b + 1)] w fun e w' => e = .returned (.int .i64 x) ∧ w = w') ∧
      Hid (Calls Try.prog 15 #[.int .i64 (c + 1), .int .i64 (b + 1)] w fun e w' => e = .returned (.bool l) ∧ w = w') := by
    have r0 := roundI_in (b + 1)
    have r1 := roundI_tight (n := b + 1) (by omega) (by omega)
    have r2 := roundI_ge (n := b + 1) (by omega)
    have k0 := cellsI_in (p := c + 1) (s := roundI (b + 1)) (by omega) (by omega)
    have k1 := cells_two (p := c + 1) (s := roundI (b + 1)) (by omega) (by omega)
    have m0 := pagesI_enough (p := c + 1) (n := b + 1) (by omega) (by omega)
    refine ⟨roundI (b + 1), cellsI (c + 1) (roundI (b + 1)), pagesI (c + 1) (b + 1), cellI (c + 1) (b + 1), largeB (c + 1) (b + 1), by omega, by omega, by omega, by omega, by omega, by omega, by omega, by omega,
      by omega, by omega, by omega, by omega, by omega, ?_, ?_, Lib.hid (round_any _ w), Lib.hid (cells_any _ _ w (by omega)), Lib.hid (pages_any _ _ w (by omega)), Lib.hid (cell_any _ _ w (by omega) (by omega) (by omega)), Lib.hid (large_any _ _ w (by omega) (by omega))⟩
    · by_cases h : (c + 1) / 2 < roundI (b + 1)
      · rw [cellI_large h (by omega) rfl (by omega) (by omega)]
        omega
      · rw [cellI_small h (by omega)]
        omega
    · by_cases h : (c + 1) / 2 < roundI (b + 1)
      · exact Or.inl (decide_eq_true (by rw [tdiv_of (by omega)]; exact h))
      · exact Or.inr (k1 (by omega))
  obtain ⟨n, k, m, x, l, n0, n1, k0, k1, e0, e1, e2, e3, m0, m1, f0, f1, f2, x0, hl, HR, HC, HP, HX, HL⟩ := main
  have f3 : 0 ≤ (m - 1) * (c + 1) := Int.mul_nonneg (by omega) (by omega)
  cases l
  · have k2 : 2 ≤ k := by simpa using hl
    clear hl
    go_enter Try.func8, Try.ntmps8
    go_wp2_with fail
    refine HR.out.mono ?_
    rintro e w1 ⟨rfl, rfl⟩
    go_wp2_with fail
    refine HC.out.mono ?_
    rintro e w1 ⟨rfl, rfl⟩
    go_wp2_with fail
    refine HP.out.mono ?_
    rintro e w1 ⟨rfl, rfl⟩
    go_wp2_with fail
    refine (awake4_any _).mono ?_
    rintro e w1 ⟨rfl, rfl⟩
    go_wp2_with fail
    refine HX.out.mono ?_
    rintro e w1 ⟨rfl, rfl⟩
    go_wp2_with fail
    refine HL.out.mono ?_
    rintro e w1 ⟨rfl, rfl⟩
    go_wp2
    go_ret
    exact ⟨rfl, rfl⟩
  · clear hl
    go_enter Try.func8, Try.ntmps8
    go_wp2_with fail
    refine HR.out.mono ?_
    rintro e w1 ⟨rfl, rfl⟩
    go_wp2_with fail
    refine HC.out.mono ?_
    rintro e w1 ⟨rfl, rfl⟩
    go_wp2_with fail
    refine HP.out.mono ?_
    rintro e w1 ⟨rfl, rfl⟩
    go_wp2_with fail
    refine (awake4_any _).mono ?_
    rintro e w1 ⟨rfl, rfl⟩
    go_wp2_with fail
    refine HX.out.mono ?_
    rintro e w1 ⟨rfl, rfl⟩
    go_wp2_with fail
    refine HL.out.mono ?_
    rintro e w1 ⟨rfl, rfl⟩
    go_wp2
    go_ret
    exact ⟨rfl, rfl⟩
end Go.Proofs.Ytpkppbfhadbenaa

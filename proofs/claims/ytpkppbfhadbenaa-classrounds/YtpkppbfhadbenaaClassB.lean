/- Contracts of class.Cells, class.Pages, class.Large, class.Cell and of the document's Pages. -/
import Derived.Test.YtpkppbfhadbenaaClassA
namespace Go.Proofs.Ytpkppbfhadbenaa
open Go.RowKit

def cellsI (p s : Int) : Int := if p < 1 ∨ s < 1 then 0 else p / s
def pagesI (p w : Int) : Int := if p < 1 ∨ w < 1 then 0 else (w - 1) / p + 1
def largeB (p w : Int) : Bool := decide (p.tdiv 2 < roundI w)

theorem tdiv_of {a b : Int} (h : 0 ≤ a) : a.tdiv b = a / b := Int.tdiv_eq_ediv_of_nonneg h

set_option maxHeartbeats 1000000 in
theorem cells_any (p s : Int) (w : World) (hp : p ≤ 9223372036854775807) :
    Calls Try.prog 12 #[.int .i64 p, .int .i64 s] w fun e w' => e = .returned (.int .i64 (cellsI p s)) ∧ w = w' := by
  by_cases h0 : p < 1
  · have E := Lib.hid (show cellsI p s = 0 from if_pos (Or.inl h0))
    go_enter Try.func12, Try.ntmps12
    go_wp2
    go_ret
    exact ⟨by rw [E.out]; rfl, rfl⟩
  · by_cases h1 : s < 1
    · have E := Lib.hid (show cellsI p s = 0 from if_pos (Or.inr h1))
      go_enter Try.func12, Try.ntmps12
      go_wp2
      go_ret
      exact ⟨by rw [E.out]; rfl, rfl⟩
    · have E := Lib.hid (show cellsI p s = p / s from if_neg (by omega))
      have hq : p.tdiv s = p / s := tdiv_of (by omega)
      have q0 : 0 ≤ p / s := Int.ediv_nonneg (by omega) (by omega)
      have q1 : p / s ≤ p := Int.ediv_le_self s (by omega)
      go_enter Try.func12, Try.ntmps12
      go_wp2
      go_ret
      exact ⟨by rw [E.out]; rfl, rfl⟩

set_option maxHeartbeats 1000000 in
theorem pages_any (p n : Int) (w : World) (hn : n ≤ 9223372036854775807) :
    Calls Try.prog 13 #[.int .i64 p, .int .i64 n] w fun e w' => e = .returned (.int .i64 (pagesI p n)) ∧ w = w' := by
  by_cases h0 : p < 1
  · have E := Lib.hid (show pagesI p n = 0 from if_pos (Or.inl h0))
    go_enter Try.func13, Try.ntmps13
    go_wp2
    go_ret
    exact ⟨by rw [E.out]; rfl, rfl⟩
  · by_cases h1 : n < 1
    · have E := Lib.hid (show pagesI p n = 0 from if_pos (Or.inr h1))
      go_enter Try.func13, Try.ntmps13
      go_wp2
      go_ret
      exact ⟨by rw [E.out]; rfl, rfl⟩
    · have E := Lib.hid (show pagesI p n = (n - 1) / p + 1 from if_neg (by omega))
      have hq : (n - 1).tdiv p = (n - 1) / p := tdiv_of (by omega)
      have q0 : 0 ≤ (n - 1) / p := Int.ediv_nonneg (by omega) (by omega)
      have q1 : (n - 1) / p ≤ n - 1 := Int.ediv_le_self p (by omega)
      go_enter Try.func13, Try.ntmps13
      go_wp2
      go_ret
      exact ⟨by rw [E.out]; rfl, rfl⟩

/-- As many pages as the quotient says, and one more for what is left. -/
theorem pagesI_left {p n : Int} (hp : ¬ p < 1) (hn : ¬ n < 1) (h : 0 < n % p) : pagesI p n = n / p + 1 := by
  have e := Int.mul_ediv_add_emod n p
  have l := Int.emod_lt_of_pos n (show 0 < p by omega)
  have : (n - 1) / p = n / p := by
    rw [Int.ediv_eq_iff_of_pos (by omega)]
    constructor
    · rw [Int.mul_comm]; omega
    · rw [Int.mul_comm]; omega
  rw [pagesI, if_neg (by omega), this]

theorem pagesI_even {p n : Int} (hp : ¬ p < 1) (hn : ¬ n < 1) (h : n % p = 0) : pagesI p n = n / p := by
  have e := Int.mul_ediv_add_emod n p
  have : (n - 1) / p = n / p - 1 := by
    have m : p * (n / p - 1) = p * (n / p) - p := by rw [Int.mul_sub, Int.mul_one]
    rw [Int.ediv_eq_iff_of_pos (by omega)]
    constructor
    · rw [Int.mul_comm]; omega
    · rw [Int.mul_comm]; omega
  rw [pagesI, if_neg (by omega), this]
  omega

set_option maxHeartbeats 1000000 in
theorem refPages_any (p n : Int) (w : World) (hn : n ≤ 9223372036854775807) :
    Calls Try.prog 14 #[.int .i64 p, .int .i64 n] w fun e w' => e = .returned (.int .i64 (pagesI p n)) ∧ w = w' := by
  by_cases h0 : p < 1
  · have E := Lib.hid (show pagesI p n = 0 from if_pos (Or.inl h0))
    go_enter Try.func14, Try.ntmps14
    go_wp2
    go_ret
    exact ⟨by rw [E.out]; rfl, rfl⟩
  · by_cases h1 : n < 1
    · have E := Lib.hid (show pagesI p n = 0 from if_pos (Or.inr h1))
      go_enter Try.func14, Try.ntmps14
      go_wp2
      go_ret
      exact ⟨by rw [E.out]; rfl, rfl⟩
    · have hq : n.tdiv p = n / p := tdiv_of (by omega)
      have hm : n.tmod p = n % p := Int.tmod_eq_emod_of_nonneg (by omega)
      have q0 : 0 ≤ n / p := Int.ediv_nonneg (by omega) (by omega)
      have q1 : n / p ≤ n := Int.ediv_le_self p (by omega)
      have m0 : 0 ≤ n % p := Int.emod_nonneg n (by omega)
      have m1 := Int.emod_lt_of_pos n (show 0 < p by omega)
      by_cases h2 : 0 < n % p
      · have E := Lib.hid (pagesI_left h0 h1 h2)
        have q2 : n / p ≤ n - 1 := by
          have e := Int.mul_ediv_add_emod n p
          have : n / p ≤ p * (n / p) := by
            have := Int.mul_le_mul_of_nonneg_right (show 1 ≤ p by omega) q0
            omega
          omega
        go_enter Try.func14, Try.ntmps14
        go_wp2
        go_ret
        exact ⟨by rw [E.out]; rfl, rfl⟩
      · have E := Lib.hid (pagesI_even h0 h1 (by omega))
        go_enter Try.func14, Try.ntmps14
        go_wp2
        go_ret
        exact ⟨by rw [E.out]; rfl, rfl⟩

theorem tdiv2 (p : Int) (h0 : -9223372036854775808 ≤ p) (h1 : p ≤ 9223372036854775807) : -4611686018427387904 ≤ p.tdiv 2 ∧ p.tdiv 2 ≤ 4611686018427387903 := by
  rcases Int.lt_or_le p 0 with h | h
  · obtain ⟨q, rfl⟩ : ∃ q, p = - q := ⟨-p, by omega⟩
    rw [Int.neg_tdiv, tdiv_of (by omega)]
    omega
  · rw [tdiv_of h]
    omega

set_option maxHeartbeats 1000000 in
theorem large_any (p n : Int) (w : World) (h0 : -9223372036854775808 ≤ p) (h1 : p ≤ 9223372036854775807) :
    Calls Try.prog 15 #[.int .i64 p, .int .i64 n] w fun e w' => e = .returned (.bool (largeB p n)) ∧ w = w' := by
  have hh := tdiv2 p h0 h1
  obtain ⟨q, hq⟩ : ∃ q, p.tdiv 2 = q := ⟨_, rfl⟩
  rw [hq] at hh
  have E := Lib.hid (show largeB p n = decide (q < roundI n) from by rw [← hq]; rfl)
  go_enter Try.func15, Try.ntmps15
  go_wp2_with fail
  refine (round_any n w).mono ?_
  rintro e w1 ⟨rfl, rfl⟩
  go_wp2
  go_ret
  exact ⟨by rw [E.out]; rfl, rfl⟩
end Go.Proofs.Ytpkppbfhadbenaa

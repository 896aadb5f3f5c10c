/- The number of pages as a function of numbers; the contract of the document's Pages. -/
import Derived.Test.YtckmijhmjnhfaaaLaw
namespace Go.Proofs.Ytckmijhmjnhfaaa
open Go.RowKit

theorem quiet_below {k : Nat} {xs : Array Value} {w : World} {v : Value} (h : Calls Try.prog k xs w fun e w' => e = .returned v ∧ w = w') :
    Calls Try.prog k xs w fun e w' => e = .returned v ∧ Below w.heap.size w w' := h.mono fun e w' ⟨he, hw⟩ => ⟨he, by subst hw; exact Below.refl _ _⟩

def pagesI (p w : Int) : Int := if p < 1 ∨ w < 1 then 0 else (w - 1) / p + 1

theorem tdiv_of {a b : Int} (h : 0 ≤ a) : a.tdiv b = a / b := Int.tdiv_eq_ediv_of_nonneg h

/-- As many pages as the quotient says, and one more for what is left. -/
theorem pagesI_left {p n : Int} (hp : ¬ p < 1) (hn : ¬ n < 1) (h : 0 < n % p) : pagesI p n = n / p + 1 := by
  have e := Int.mul_ediv_add_emod n p
  have l := Int.emod_lt_of_pos n (show 0 < p by omega)
  have : (n - 1) / p = n / p := by
    rw [Int.ediv_eq_iff_of_pos (by omega)]
    constructor
    · rw [Int.mul_comm]; omega
    · rw [Int.mul_comm]; omega
  rw [pagesI, if_neg (by omega), this]

theorem pagesI_even {p n : Int} (hp : ¬ p < 1) (hn : ¬ n < 1) (h : n % p = 0) : pagesI p n = n / p := by
  have e := Int.mul_ediv_add_emod n p
  have : (n - 1) / p = n / p - 1 := by
    have m : p * (n / p - 1) = p * (n / p) - p := by rw [Int.mul_sub, Int.mul_one]
    rw [Int.ediv_eq_iff_of_pos (by omega)]
    constructor
    · rw [Int.mul_comm]; omega
    · rw [Int.mul_comm]; omega
  rw [pagesI, if_neg (by omega), this]
  omega

set_option maxHeartbeats 1000000 in
theorem refPages_any (p n : Int) (w : World) (hn : n ≤ 9223372036854775807) :
    Calls Try.prog 10 #[.int .i64 p, .int .i64 n] w fun e w' => e = .returned (.int .i64 (pagesI p n)) ∧ w = w' := by
  by_cases h0 : p < 1
  · have E := Lib.hid (show pagesI p n = 0 from if_pos (Or.inl h0))
    go_enter Try.func10, Try.ntmps10
    go_wp2
    go_ret
    exact ⟨by rw [E.out]; rfl, rfl⟩
  · by_cases h1 : n < 1
    · have E := Lib.hid (show pagesI p n = 0 from if_pos (Or.inr h1))
      go_enter Try.func10, Try.ntmps10
      go_wp2
      go_ret
      exact ⟨by rw [E.out]; rfl, rfl⟩
    · have hq : n.tdiv p = n / p := tdiv_of (by omega)
      have hm : n.tmod p = n % p := Int.tmod_eq_emod_of_nonneg (by omega)
      have q0 : 0 ≤ n / p := Int.ediv_nonneg (by omega) (by omega)
      have q1 : n / p ≤ n := Int.ediv_le_self p (by omega)
      have m0 : 0 ≤ n % p := Int.emod_nonneg n (by omega)
      have m1 := Int.emod_lt_of_pos n (show 0 < p by omega)
      by_cases h2 : 0 < n % p
      · have E := Lib.hid (pagesI_left h0 h1 h2)
        have q2 : n / p ≤ n - 1 := by
          have e := Int.mul_ediv_add_emod n p
          have : n / p ≤ p * (n / p) := by
            have := Int.mul_le_mul_of_nonneg_right (show 1 ≤ p by omega) q0
            omega
          omega
        go_enter Try.func10, Try.ntmps10
        go_wp2
        go_ret
        exact ⟨by rw [E.out]; rfl, rfl⟩
      · have E := Lib.hid (pagesI_even h0 h1 (by omega))
        go_enter Try.func10, Try.ntmps10
        go_wp2
        go_ret
        exact ⟨by rw [E.out]; rfl, rfl⟩

theorem pagesI_enough {p n : Int} (hp : 1 ≤ p) (hn : 1 ≤ n) : 1 ≤ pagesI p n ∧ pagesI p n ≤ n ∧ n ≤ pagesI p n * p ∧ (pagesI p n - 1) * p < n ∧ pagesI p n * p < n + p := by
  have e := Int.mul_ediv_add_emod (n - 1) p
  have m0 : 0 ≤ (n - 1) % p := Int.emod_nonneg _ (by omega)
  have m1 := Int.emod_lt_of_pos (n - 1) (show 0 < p by omega)
  have q0 : 0 ≤ (n - 1) / p := Int.ediv_nonneg (by omega) (by omega)
  have q1 : (n - 1) / p ≤ n - 1 := Int.ediv_le_self p (by omega)
  rw [show pagesI p n = (n - 1) / p + 1 from if_neg (by omega)]
  have x : ((n - 1) / p + 1) * p = p * ((n - 1) / p) + p := by rw [Int.add_mul, Int.mul_comm, Int.one_mul]
  have y : ((n - 1) / p + 1 - 1) * p = p * ((n - 1) / p) := by rw [Int.add_sub_cancel, Int.mul_comm]
  omega
end Go.Proofs.Ytckmijhmjnhfaaa

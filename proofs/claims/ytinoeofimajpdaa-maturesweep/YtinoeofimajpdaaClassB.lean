/- Contracts of class.Cells, class.Pages and class.Large. -/
import Derived.Test.YtinoeofimajpdaaClassA
namespace Go.Proofs.Ytinoeofimajpdaa
open Go.RowKit

def cellsI (p s : Int) : Int := if p < 1 ∨ s < 1 then 0 else p / s
def largeB (p w : Int) : Bool := decide (p.tdiv 2 < roundI w)

set_option maxHeartbeats 1000000 in
theorem cells_any (p s : Int) (w : World) (hp : p ≤ 9223372036854775807) :
    Calls Try.prog 49 #[.int .i64 p, .int .i64 s] w fun e w' => e = .returned (.int .i64 (cellsI p s)) ∧ w = w' := by
  by_cases h0 : p < 1
  · have E := Lib.hid (show cellsI p s = 0 from if_pos (Or.inl h0))
    go_enter Try.func49, Try.ntmps49
    go_wp2
    go_ret
    exact ⟨by rw [E.out]; rfl, rfl⟩
  · by_cases h1 : s < 1
    · have E := Lib.hid (show cellsI p s = 0 from if_pos (Or.inr h1))
      go_enter Try.func49, Try.ntmps49
      go_wp2
      go_ret
      exact ⟨by rw [E.out]; rfl, rfl⟩
    · have E := Lib.hid (show cellsI p s = p / s from if_neg (by omega))
      have hq : p.tdiv s = p / s := tdiv_of (by omega)
      have q0 : 0 ≤ p / s := Int.ediv_nonneg (by omega) (by omega)
      have q1 : p / s ≤ p := Int.ediv_le_self s (by omega)
      go_enter Try.func49, Try.ntmps49
      go_wp2
      go_ret
      exact ⟨by rw [E.out]; rfl, rfl⟩

set_option maxHeartbeats 1000000 in
theorem pages_any (p n : Int) (w : World) (hn : n ≤ 9223372036854775807) :
    Calls Try.prog 30 #[.int .i64 p, .int .i64 n] w fun e w' => e = .returned (.int .i64 (pagesI p n)) ∧ w = w' := by
  by_cases h0 : p < 1
  · have E := Lib.hid (show pagesI p n = 0 from if_pos (Or.inl h0))
    go_enter Try.func30, Try.ntmps30
    go_wp2
    go_ret
    exact ⟨by rw [E.out]; rfl, rfl⟩
  · by_cases h1 : n < 1
    · have E := Lib.hid (show pagesI p n = 0 from if_pos (Or.inr h1))
      go_enter Try.func30, Try.ntmps30
      go_wp2
      go_ret
      exact ⟨by rw [E.out]; rfl, rfl⟩
    · have E := Lib.hid (show pagesI p n = (n - 1) / p + 1 from if_neg (by omega))
      have hq : (n - 1).tdiv p = (n - 1) / p := tdiv_of (by omega)
      have q0 : 0 ≤ (n - 1) / p := Int.ediv_nonneg (by omega) (by omega)
      have q1 : (n - 1) / p ≤ n - 1 := Int.ediv_le_self p (by omega)
      go_enter Try.func30, Try.ntmps30
      go_wp2
      go_ret
      exact ⟨by rw [E.out]; rfl, rfl⟩

theorem tdiv2 (p : Int) (h0 : -9223372036854775808 ≤ p) (h1 : p ≤ 9223372036854775807) : -4611686018427387904 ≤ p.tdiv 2 ∧ p.tdiv 2 ≤ 4611686018427387903 := by
  rcases Int.lt_or_le p 0 with h | h
  · obtain ⟨q, rfl⟩ : ∃ q, p = - q := ⟨-p, by omega⟩
    rw [Int.neg_tdiv, tdiv_of (by omega)]
    omega
  · rw [tdiv_of h]
    omega

set_option maxHeartbeats 1000000 in
theorem large_any (p n : Int) (w : World) (h0 : -9223372036854775808 ≤ p) (h1 : p ≤ 9223372036854775807) :
    Calls Try.prog 28 #[.int .i64 p, .int .i64 n] w fun e w' => e = .returned (.bool (largeB p n)) ∧ w = w' := by
  have hh := tdiv2 p h0 h1
  obtain ⟨q, hq⟩ : ∃ q, p.tdiv 2 = q := ⟨_, rfl⟩
  rw [hq] at hh
  have E := Lib.hid (show largeB p n = decide (q < roundI n) from by rw [← hq]; rfl)
  go_enter Try.func28, Try.ntmps28
  go_wp2_with fail
  refine (round_any n w).mono ?_
  rintro e w1 ⟨rfl, rfl⟩
  go_wp2
  go_ret
  exact ⟨by rw [E.out]; rfl, rfl⟩
end Go.Proofs.Ytinoeofimajpdaa

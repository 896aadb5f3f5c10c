/- Contracts of the small functions of package head: within, flag, Good. -/
import Derived.Test.YthhbamllnacklaaLaw
namespace Go.Proofs.Ythhbamllnacklaa
open Go.RowKit

def inB (n m : Int) : Bool := decide (0 ≤ n ∧ n ≤ m)

set_option maxHeartbeats 400000 in
theorem within_any (n m : Int) (w : World) :
    Calls Try.prog 40 #[.int .i64 n, .int .i64 m] w fun e w' => e = .returned (.bool (inB n m)) ∧ w = w' := by
  by_cases h0 : 0 ≤ n
  · by_cases h1 : n ≤ m
    · go_enter Try.func40, Try.ntmps40
      go_wp2
      go_ret
      exact ⟨by simp [inB, h0, h1], rfl⟩
    · go_enter Try.func40, Try.ntmps40
      go_wp2
      go_ret
      exact ⟨by simp [inB, h0, h1], rfl⟩
  · go_enter Try.func40, Try.ntmps40
    go_wp2
    go_ret
    exact ⟨by rw [show inB n m = false from by unfold inB; exact decide_eq_false (by omega)]; rfl, rfl⟩

def flagI (b : Bool) (n : Int) : Int := if b then n else 0

set_option maxHeartbeats 400000 in
theorem flag_any (b : Bool) (n : Int) (w : World) :
    Calls Try.prog 38 #[.bool b, .int .u64 n] w fun e w' => e = .returned (.int .u64 (flagI b n)) ∧ w = w' := by
  cases b
  · go_enter Try.func38, Try.ntmps38
    go_wp2
    go_ret
    exact ⟨rfl, rfl⟩
  · go_enter Try.func38, Try.ntmps38
    go_wp2
    go_ret
    exact ⟨rfl, rfl⟩

/-- A head as a value. -/
abbrev hdV (s p a y : Int) (g n o : Bool) : Value := .agg #[.int .i64 s, .int .i64 p, .int .i64 a, .int .i64 y, .bool g, .bool n, .bool o]

def goodB (s p a y : Int) : Bool := inB s 64 && (inB p s && (inB a 7 && inB y 1))

theorem goodB_iff (s p a y : Int) : goodB s p a y = true ↔ 0 ≤ s ∧ s ≤ 64 ∧ 0 ≤ p ∧ p ≤ s ∧ 0 ≤ a ∧ a ≤ 7 ∧ 0 ≤ y ∧ y ≤ 1 := by
  simp only [goodB, inB, Bool.and_eq_true, decide_eq_true_eq]
  constructor
  · rintro ⟨⟨_, _⟩, ⟨_, _⟩, ⟨_, _⟩, _, _⟩; omega
  · rintro ⟨_, _, _, _, _, _, _, _⟩; omega

set_option maxHeartbeats 1000000 in
theorem good_any (s p a y : Int) (g n o : Bool) (w : World) :
    Calls Try.prog 37 #[hdV s p a y g n o] w fun e w' => e = .returned (.bool (goodB s p a y)) ∧ Below w.heap.size w w' := by
  unfold goodB
  cases h1 : inB s 64
  case true =>
    cases h2 : inB p s
    case true =>
      cases h3 : inB a 7
      all_goals
        go_enter Try.func37, Try.ntmps37
        go_wp2_with (go_at_call 40; refine (within_any _ _ _).mono ?_; rintro e w' ⟨rfl, rfl⟩)
        go_ret
        exact ⟨by simp [*], (Below.refl _ _).alloc (Nat.le_refl _) _⟩
    case false =>
      go_enter Try.func37, Try.ntmps37
      go_wp2_with (go_at_call 40; refine (within_any _ _ _).mono ?_; rintro e w' ⟨rfl, rfl⟩)
      go_ret
      exact ⟨by simp [*], (Below.refl _ _).alloc (Nat.le_refl _) _⟩
  case false =>
    go_enter Try.func37, Try.ntmps37
    go_wp2_with (go_at_call 40; refine (within_any _ _ _).mono ?_; rintro e w' ⟨rfl, rfl⟩)
    go_ret
    exact ⟨by simp [*], (Below.refl _ _).alloc (Nat.le_refl _) _⟩
end Go.Proofs.Ythhbamllnacklaa

/- The size of a cell as a function of numbers, and the contracts of class.Round and of the document's Round. -/
import Derived.Test.YtpkppbfhadbenaaLaw
namespace Go.Proofs.Ytpkppbfhadbenaa
open Go.RowKit

theorem quiet_below {k : Nat} {xs : Array Value} {w : World} {v : Value} (h : Calls Try.prog k xs w fun e w' => e = .returned v ∧ w = w') :
    Calls Try.prog k xs w fun e w' => e = .returned v ∧ Below w.heap.size w w' := h.mono fun e w' ⟨he, hw⟩ => ⟨he, by subst hw; exact Below.refl _ _⟩

/-- The least of the sizes a, 3a/2, 2a, .. that is w or more, k doublings far; behind them the last. -/
def rnd : Nat → Int → Int → Int
  | 0, a, _ => a
  | k + 1, a, w => if w ≤ a then a else if w ≤ a + a / 2 then a + a / 2 else rnd k (2 * a) w

def roundI (w : Int) : Int := rnd 38 4 w

theorem rnd_first {k : Nat} {a w : Int} (h : w ≤ a) : rnd (k + 1) a w = a := by unfold rnd; rw [if_pos h]
theorem rnd_second {k : Nat} {a w : Int} (h : ¬ w ≤ a) (h2 : w ≤ a + a / 2) : rnd (k + 1) a w = a + a / 2 := by unfold rnd; rw [if_neg h, if_pos h2]
theorem rnd_more {k : Nat} {a w : Int} (h : ¬ w ≤ a) (h2 : ¬ w ≤ a + a / 2) : rnd (k + 1) a w = rnd k (2 * a) w := by rw [rnd, if_neg h, if_neg h2]

/-- a, doubled k times, is 2^40. -/
def Far : Nat → Int → Prop
  | 0, a => a = 1099511627776
  | k + 1, a => 4 ≤ a ∧ a % 4 = 0 ∧ a ≤ 549755813888 ∧ Far k (2 * a)

theorem far_start : Far 38 4 := by
  simp [Far]

theorem far_bounds {k : Nat} {a : Int} (h : Far k a) : 4 ≤ a ∧ a % 4 = 0 ∧ a ≤ 1099511627776 := by
  cases k with
  | zero => cases h; omega
  | succ k => obtain ⟨h0, h1, h2, _⟩ := h; omega

set_option maxHeartbeats 1000000 in
theorem round_any (n : Int) (w : World) :
    Calls Try.prog 10 #[.int .i64 n] w fun e w' => e = .returned (.int .i64 (roundI n)) ∧ w = w' := by
  go_enter Try.func10, Try.ntmps10
  go_wp2_with fail
  go_loopw [3] (fun s wr => ∃ (k : Nat) (h : Int), s = .int .i64 (2 * h) ∧ Far k (2 * h) ∧ roundI n = rnd k (2 * h) n ∧ w = wr) (fun s _ => (1099511627776 - intOf s).toNat)
  case atStart => exact ⟨38, 2, rfl, far_start, rfl, rfl⟩
  case round =>
    obtain ⟨k, h, rfl, hf, hr, rfl⟩ := hrel
    have hq : (2 * h).tdiv 2 = h := Int.mul_tdiv_cancel_left h (by decide)
    have hd : (2 * h) / 2 = h := by omega
    cases k with
    | zero =>
      have hf : 2 * h = 1099511627776 := hf
      have HR := Lib.hid hr
      clear hr
      obtain rfl : h = 549755813888 := by omega
      go_wp2
      go_ret
      exact ⟨by rw [HR.out]; rfl, rfl⟩
    | succ k =>
      obtain ⟨f0, f1, f2, f3⟩ := hf
      have HR := Lib.hid hr
      have HF := Lib.hid f3
      clear hr f3
      by_cases h1 : n ≤ 2 * h
      · have E := Lib.hid (HR.out.trans (rnd_first h1))
        go_wp2
        go_ret
        exact ⟨by rw [E.out]; rfl, rfl⟩
      · by_cases h2 : n ≤ 2 * h + h
        · have E := Lib.hid (HR.out.trans (rnd_second h1 (by omega)))
          rw [hd] at E
          go_wp2
          go_ret
          exact ⟨by rw [E.out]; rfl, rfl⟩
        · have E := Lib.hid (HR.out.trans (rnd_more h1 (by omega)))
          go_wp2
          go_roundw
          case rel => exact ⟨k, 2 * h, by go_num, HF.out, E.out, by trivial⟩
          case measure => simp [intOf]; omega

set_option maxHeartbeats 1000000 in
theorem refRound_any (n : Int) (w : World) :
    Calls Try.prog 11 #[.int .i64 n] w fun e w' => e = .returned (.int .i64 (roundI n)) ∧ w = w' := by
  go_enter Try.func11, Try.ntmps11
  go_wp2_with fail
  go_loopw [3, 4] (fun s s2 wr => ∃ (k : Nat) (h : Int), s = .int .i64 (2 * h) ∧ s2 = .int .i64 (3 * h) ∧ Far k (2 * h) ∧ roundI n = rnd k (2 * h) n ∧ w = wr) (fun s _ _ => (1099511627776 - intOf s).toNat)
  case atStart => exact ⟨38, 2, rfl, rfl, far_start, rfl, rfl⟩
  case round =>
    obtain ⟨k, h, rfl, rfl, hf, hr, rfl⟩ := hrel
    have hd : (2 * h) / 2 = h := by omega
    cases k with
    | zero =>
      have hf : 2 * h = 1099511627776 := hf
      have HR := Lib.hid hr
      clear hr
      obtain rfl : h = 549755813888 := by omega
      go_wp2
      go_ret
      exact ⟨by rw [HR.out]; rfl, rfl⟩
    | succ k =>
      obtain ⟨f0, f1, f2, f3⟩ := hf
      have HR := Lib.hid hr
      have HF := Lib.hid f3
      clear hr f3
      by_cases h1 : n ≤ 2 * h
      · have E := Lib.hid (HR.out.trans (rnd_first h1))
        go_wp2
        go_ret
        exact ⟨by rw [E.out]; rfl, rfl⟩
      · by_cases h2 : n ≤ 3 * h
        · have E := Lib.hid (show roundI n = 3 * h from by rw [HR.out, rnd_second h1 (by omega)]; omega)
          go_wp2
          go_ret
          exact ⟨by rw [E.out]; rfl, rfl⟩
        · have E := Lib.hid (HR.out.trans (rnd_more h1 (by omega)))
          go_wp2
          go_roundw
          case rel => exact ⟨k, 2 * h, by go_num, by go_num, HF.out, E.out, by trivial⟩
          case measure => simp [intOf]; omega
end Go.Proofs.Ytpkppbfhadbenaa

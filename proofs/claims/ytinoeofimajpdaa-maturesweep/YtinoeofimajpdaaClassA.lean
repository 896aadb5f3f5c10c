/- Contract of class.Round. -/
import Derived.Test.YtinoeofimajpdaaRefN
namespace Go.Proofs.Ytinoeofimajpdaa
open Go.RowKit

set_option maxHeartbeats 1000000 in
theorem round_any (n : Int) (w : World) :
    Calls Try.prog 32 #[.int .i64 n] w fun e w' => e = .returned (.int .i64 (roundI n)) ∧ w = w' := by
  go_enter Try.func32, Try.ntmps32
  go_wp2_with fail
  go_loopw [3] (fun s wr => ∃ (k : Nat) (h : Int), s = .int .i64 (2 * h) ∧ Far k (2 * h) ∧ roundI n = rnd k (2 * h) n ∧ w = wr) (fun s _ => (1099511627776 - intOf s).toNat)
  case atStart => exact ⟨38, 2, rfl, far_start, rfl, rfl⟩
  case round =>
    obtain ⟨k, h, rfl, hf, hr, rfl⟩ := hrel
    have hq : (2 * h).tdiv 2 = h := Int.mul_tdiv_cancel_left h (by decide)
    have hd : (2 * h) / 2 = h := by omega
    cases k with
    | zero =>
      have hf : 2 * h = 1099511627776 := hf
      have HR := Lib.hid hr
      clear hr
      obtain rfl : h = 549755813888 := by omega
      go_wp2
      go_ret
      exact ⟨by rw [HR.out]; rfl, rfl⟩
    | succ k =>
      obtain ⟨f0, f1, f2, f3⟩ := hf
      have HR := Lib.hid hr
      have HF := Lib.hid f3
      clear hr f3
      by_cases h1 : n ≤ 2 * h
      · have E := Lib.hid (HR.out.trans (rnd_first h1))
        go_wp2
        go_ret
        exact ⟨by rw [E.out]; rfl, rfl⟩
      · by_cases h2 : n ≤ 2 * h + h
        · have E := Lib.hid (HR.out.trans (rnd_second h1 (by omega)))
          rw [hd] at E
          go_wp2
          go_ret
          exact ⟨by rw [E.out]; rfl, rfl⟩
        · have E := Lib.hid (HR.out.trans (rnd_more h1 (by omega)))
          go_wp2
          go_roundw
          case rel => exact ⟨k, 2 * h, by go_num, HF.out, E.out, by trivial⟩
          case measure => simp [intOf]; omega

end Go.Proofs.Ytinoeofimajpdaa

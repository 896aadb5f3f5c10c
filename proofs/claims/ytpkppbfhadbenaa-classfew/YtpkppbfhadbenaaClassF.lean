/- The walk of ClassFew. -/
import Derived.Test.YtpkppbfhadbenaaClassD
namespace Go.Proofs.Ytpkppbfhadbenaa
open Go.RowKit

/-- The sizes in their order, behind a 0. -/
def szI (c : Nat) : Int := if c = 0 then 0 else if c % 2 = 1 then 4 * 2 ^ (c / 2) else 6 * 2 ^ (c / 2 - 1)

theorem szI_next : ∀ c < 29, roundI (szI c + 1) = szI (c + 1) := by decide
theorem szI_less : ∀ c < 29, szI c < szI (c + 1) ∧ 0 ≤ szI c ∧ szI (c + 1) ≤ 65536 := by decide
theorem szI_few : ∀ c < 29, ∀ d < 17, szI c < 2 ^ d → c ≤ 2 * d := by decide
theorem pow_in : ∀ d < 17, (1 : Int) ≤ 2 ^ d ∧ (2 : Int) ^ d ≤ 65536 := by decide

theorem half_again (x : Int) (d : Nat) : x / 2 ^ d / 2 = x / 2 ^ (d + 1) := by
  rw [Int.pow_succ, Int.ediv_ediv_of_nonneg (Int.le_of_lt (Int.pow_pos (by decide)))]

set_option maxHeartbeats 4000000 in
theorem classFew_walk (W : Int) (W0 : 0 ≤ W) (W1 : W ≤ 65535) (w : World) :
    Calls Try.prog 7 #[.int .u16 W] w fun e w' => e = .returned (.bool true) ∧ w = w' := by
  go_enter Try.func7, Try.ntmps7
  go_wp2_with fail
  go_loopw [5, 6] (fun s5 s6 wr => ∃ (d : Nat) (K : Int), d ≤ 16 ∧ Hid (K = W / 2 ^ d) ∧ 0 ≤ K ∧ K ≤ 65535 ∧ s6 = .int .i64 K ∧ s5 = .int .i64 d ∧ w = wr) (fun _ s6 _ => (intOf s6).toNat)
  case atStart => exact ⟨0, W, by omega, Lib.hid (by simp), W0, W1, rfl, rfl, rfl⟩
  case round =>
    obtain ⟨d, K, hd, HK, K0, K1, rfl, rfl, rfl⟩ := hrel
    by_cases h : 0 < K
    · have hq : K.tdiv 2 = K / 2 := tdiv_of K0
      have d1 : d < 16 := by
        rcases Nat.lt_or_ge d 16 with h' | h'
        · exact h'
        · obtain rfl : d = 16 := by omega
          have := HK.out
          omega
      go_wp2
      go_roundw
      case rel => exact ⟨d + 1, K / 2, by omega, Lib.hid (by rw [HK.out, half_again]), by omega, by omega, by go_num, by go_num, by trivial⟩
      case measure => simp [intOf]; omega
    · have HW := Lib.hid (show W < 2 ^ d from by
        have e := HK.out
        have p := (pow_in d (by omega)).1
        have l := Int.lt_ediv_add_one_mul_self W (show (0 : Int) < 2 ^ d by omega)
        rw [← e, show K = 0 by omega] at l
        omega)
      clear HK
      go_wp2_with fail
      go_loopw [3, 4] (fun s3 s4 wr => ∃ (c : Nat) (n : Int), c ≤ 29 ∧ Hid (n = szI c ∧ (c = 0 ∨ szI (c - 1) < W)) ∧ 0 ≤ n ∧ n ≤ 65536 ∧ s3 = .int .i64 n ∧ s4 = .int .i64 c ∧ w = wr) (fun s3 _ _ => (65536 - intOf s3).toNat)
      case atStart => exact ⟨0, 0, by omega, Lib.hid ⟨rfl, Or.inl rfl⟩, by omega, by omega, rfl, rfl, rfl⟩
      case round =>
        obtain ⟨c, n, hc, HN, n0, n1, rfl, rfl, rfl⟩ := hrel
        by_cases g : n < W
        · have c1 : c < 29 := by
            rcases Nat.lt_or_ge c 29 with h' | h'
            · exact h'
            · obtain rfl : c = 29 := by omega
              have := HN.out.1
              rw [show szI 29 = 65536 from by decide] at this
              omega
          obtain ⟨l1, l2, l3⟩ := szI_less c c1
          have hR := round_any (n + 1) w
          rw [show roundI (n + 1) = szI (c + 1) from by rw [HN.out.1]; exact szI_next c c1] at hR
          rw [← HN.out.1] at l1
          have HM := Lib.hid (show szI (c + 1) = szI (c + 1) ∧ (c + 1 = 0 ∨ szI (c + 1 - 1) < W) from ⟨rfl, Or.inr (by rw [Nat.add_sub_cancel, ← HN.out.1]; exact g)⟩)
          clear HN l2
          obtain ⟨m, hm⟩ : ∃ m, szI (c + 1) = m := ⟨_, rfl⟩
          rw [hm] at hR l1 l3
          have HR := Lib.hid hR
          clear hR
          have HM2 := Lib.hid (show m = szI (c + 1) ∧ (c + 1 = 0 ∨ szI (c + 1 - 1) < W) from ⟨hm.symm, HM.out.2⟩)
          clear HM hm
          go_wp2_with fail
          refine HR.out.mono ?_
          rintro e w1 ⟨rfl, rfl⟩
          go_wp2
          go_roundw
          case rel => exact ⟨c + 1, m, by omega, HM2, by omega, by omega, rfl, by go_num, by trivial⟩
          case measure => simp [intOf]; omega
        · have few : c ≤ 2 * d + 1 := by
            rcases HN.out.2 with e | e
            · omega
            · rcases Nat.eq_zero_or_pos c with z | z
              · omega
              · have := szI_few (c - 1) (by omega) d (by omega) (Int.lt_trans e HW.out)
                omega
          clear HN
          go_wp2_with fail
          refine (awake4_any _).mono ?_
          rintro e w1 ⟨rfl, rfl⟩
          go_wp2
          go_ret
          exact ⟨by show Ending.returned (.bool (decide ((c : Int) ≤ 2 * (d : Int) + 1))) = _; rw [decide_eq_true (by omega)], rfl⟩
end Go.Proofs.Ytpkppbfhadbenaa

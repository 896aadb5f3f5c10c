/- The walk of BumpRows. -/
import Derived.Test.YtbpkoaojhcaahaaBumpE
namespace Go.Proofs.Ytbpkoaojhcaahaa
open Go.RowKit

theorem ret_pair {a b : Int} {p q : Bool} (h : a = b) (k : p = q) : Ending.returned (.tuple #[.int .i64 a, .bool p]) = .returned (.tuple #[.int .i64 b, .bool q]) := by rw [h, k]

set_option maxHeartbeats 8000000 in
set_option maxRecDepth 100000 in
theorem bumpRows_walk (m : Int) (m0 : 0 ≤ m) (m1 : m ≤ 65535) (A : Option Addr) (n c : Nat) (w : World) (rd : RdN .u8 0 255 w A n) (hn : n ≤ c) (hc : c ≤ maxLen) :
    Calls Try.prog 5 #[.int .u16 m, .slice A n c] w fun e w' => e = .returned (.bool true) ∧ Below w.heap.size w w' := by
  have nm : n ≤ 9223372036854775807 := by simp only [maxLen] at hc; omega
  have RD := Lib.hid rd
  clear rd hc hn
  have HW := Lib.hid (cutI_id (n := m) (l := 0) (m := 1048576) (by omega) (by omega))
  go_enter Try.func5, Try.ntmps5
  go_wp2_with fail
  refine (bNew_any 5 m w).mono ?_
  rintro e w1 ⟨rfl, i1, b1⟩
  rw [HW.out] at i1
  have HS : Hid (Ses w w1 w.heap.size m 5 false 0 0) := Lib.hid ⟨i1, b1, Nat.le_refl _⟩
  clear i1 b1
  generalize w.heap.size = b at HS ⊢
  go_wp2_with fail
  go_loopw [6, 7] (fun s6 s wr => ∃ (i : Nat) (u N : Int), i ≤ n ∧ i ≤ 100 ∧ s = .int .i64 i ∧ s6 = .int .i64 N ∧ 0 ≤ u ∧ u ≤ m ∧ N ≤ 5 + u ∧ 5 + u ≤ N ∧ Hid (Ses w wr b m 5 false u 0)) (fun _ s _ => 100 - (intOf s).toNat)
  case atStart => exact ⟨0, 0, 5, Nat.zero_le _, by omega, rfl, rfl, by omega, by omega, by omega, by omega, HS⟩
  case round =>
    clear HS
    obtain ⟨i, u, N, hin, hi4, rfl, rfl, u0, u1, n0, n1, HS⟩ := hrel
    by_cases ilt : i < n ∧ i < 100
    · obtain ⟨il, i4⟩ := ilt
      obtain ⟨ad, x, rfl, x0, x1, rc⟩ := RD.out i il
      have RC := Lib.hid rc
      clear rc
      have r0 := RC.out _ HS.out.old
      by_cases ok : 1 ≤ x ∧ x ≤ m - u
      · obtain ⟨k0, k1⟩ := ok
        go_wp2_with fail
        refine (bTake_yes b m 5 false u 0 _ x HS.out.is k0 k1).mono ?_
        rintro e w3 ⟨he, i1, f1⟩
        obtain rfl : e = .returned (.tuple #[.int .i64 N, .bool true]) := he.trans (ret_pair (show 5 + u = N by omega) rfl)
        clear r0
        have HS := Lib.hid (HS.out.step i1 f1)
        have r0 := RC.out _ HS.out.old
        have E1 := Lib.hid (inB_yes (a := 5) (u := u + x) (x := N) (by omega) (by omega))
        have E2 := Lib.hid (inB_no (a := 5 + m) (u := 0) (x := N) (by omega))
        clear i1 f1
        go_wp2_with fail
        refine (bIn_any b m 5 false (u + x) 0 _ N HS.out.is).mono ?_
        rintro e w4 ⟨he, b1⟩
        obtain rfl : e = .returned (.bool true) := he.trans (ret_bool E1.out)
        have HS := Lib.hid (HS.out.keep b1)
        clear r0
        have r0 := RC.out _ HS.out.old
        clear b1
        go_wp2_with fail
        refine (bFrom_any b m 5 false (u + x) 0 _ N HS.out.is).mono ?_
        rintro e w5 ⟨he, b1⟩
        obtain rfl : e = .returned (.bool false) := he.trans (ret_bool E2.out)
        have HS := Lib.hid (HS.out.keep b1)
        clear r0
        have r0 := RC.out _ HS.out.old
        clear b1
        go_wp2
        go_roundw
        case rel => exact ⟨i + 1, u + x, N + x, by omega, by omega, by go_num, rfl, by omega, by omega, by omega, by omega, HS⟩
        case measure => simp [intOf]; omega
      · go_wp2_with fail
        refine (bTake_no b m 5 false u 0 _ x HS.out.is (by omega)).mono ?_
        rintro e w3 ⟨rfl, b1⟩
        clear r0
        have HS := Lib.hid (HS.out.keep b1)
        clear b1
        go_wp2
        go_roundw
        case rel => exact ⟨i + 1, u, N, by omega, by omega, by go_num, rfl, by omega, by omega, by omega, by omega, HS⟩
        case measure => simp [intOf]; omega
    · by_cases hin2 : i < n
      all_goals
        try have h40 : ¬ i < 100 := by omega
        go_wp2_with fail
        refine (bFlip_yes b m 5 false u _ HS.out.is).mono ?_
        rintro e w2 ⟨rfl, i1, f1⟩
        have HS := Lib.hid (HS.out.step i1 f1)
        clear i1 f1
        go_wp2_with fail
        go_loopw [10] (fun s wr => ∃ k : Int, 5 ≤ k ∧ k ≤ N + 7 ∧ s = .int .i64 k ∧ Hid (Ses w wr b m 5 true 0 u)) (fun s _ => (N + 7 - intOf s).toNat)
        case atStart => exact ⟨5, by omega, by omega, rfl, HS⟩
        case round =>
          clear HS
          obtain ⟨k, k0, k1, rfl, HS⟩ := hrel
          by_cases hk : k < N
          · have E1 := Lib.hid (inB_no (a := 5 + m) (u := 0) (x := k) (by omega))
            have E2 := Lib.hid (inB_yes (a := 5) (u := u) (x := k) (by omega) (by omega))
            go_wp2_with fail
            refine (bIn_any b m 5 true 0 u _ k HS.out.is).mono ?_
            rintro e w3 ⟨he, b1⟩
            obtain rfl : e = .returned (.bool false) := he.trans (ret_bool E1.out)
            have HS := Lib.hid (HS.out.keep b1)
            clear b1
            go_wp2_with fail
            refine (bFrom_any b m 5 true 0 u _ k HS.out.is).mono ?_
            rintro e w4 ⟨he, b1⟩
            obtain rfl : e = .returned (.bool true) := he.trans (ret_bool E2.out)
            have HS := Lib.hid (HS.out.keep b1)
            clear b1
            go_wp2
            go_roundw
            case rel => exact ⟨k + 7, by omega, by omega, rfl, HS⟩
            case measure => simp [intOf]; omega
          · have hu : (u == N - 5) = true := by simp; omega
            have hu2 : decide (u = N - 5) = true := by simp; omega
            go_wp2_with fail
            refine (awake_any _).mono ?_
            rintro e w4 ⟨rfl, b1⟩
            have HS := Lib.hid (HS.out.keep b1)
            clear b1
            go_wp2_with fail
            refine (bUsed_any b m 5 true 0 u _ HS.out.is).mono ?_
            rintro e w5 ⟨rfl, b1⟩
            have HS := Lib.hid (HS.out.keep b1)
            clear b1
            go_wp2_with fail
            refine (bLeft_any b m 5 true 0 u _ HS.out.is).mono ?_
            rintro e w6 ⟨rfl, b1⟩
            have HS := Lib.hid (HS.out.keep b1)
            clear b1
            go_wp2
            go_ret
            exact ⟨rfl, HS.out.old⟩
end Go.Proofs.Ytbpkoaojhcaahaa

/- The walk of BumpWords. -/
import Derived.Test.YtbpkoaojhcaahaaBumpC
namespace Go.Proofs.Ytbpkoaojhcaahaa
open Go.RowKit

theorem inB_yes {a u x : Int} (h0 : a ≤ x) (h1 : x < a + u) : inB a u x = true := by rw [inB, decide_eq_true h0, decide_eq_true h1]; rfl
theorem inB_no {a u x : Int} (h : x < a ∨ a + u ≤ x) : inB a u x = false := by
  rw [inB, Bool.and_eq_false_iff, decide_eq_false_iff_not, decide_eq_false_iff_not]; omega

theorem ret_bool {p q : Bool} (h : p = q) : Ending.returned (.bool p) = .returned (.bool q) := by rw [h]

theorem cutI_id {n l m : Int} (h0 : l ≤ n) (h1 : n ≤ m) : cutI n l m = n := by rw [cutI, if_neg (by omega), if_neg (by omega)]

set_option maxHeartbeats 8000000 in
set_option maxRecDepth 100000 in
theorem bumpWords_walk (m a c : Int) (m0 : 0 ≤ m) (m1 : m ≤ 255) (a0 : 0 ≤ a) (a1 : a ≤ 255) (c0 : 0 ≤ c) (c1 : c ≤ 255) (w : World) :
    Calls Try.prog 7 #[.int .u8 m, .int .u8 a, .int .u8 c] w fun e w' => e = .returned (.bool true) ∧ Below w.heap.size w w' := by
  obtain ⟨X, hX⟩ : ∃ X, a % (m + 1) = X := ⟨_, rfl⟩
  obtain ⟨Y, hY⟩ : ∃ Y, c % 40 = Y := ⟨_, rfl⟩
  have x0 : 0 ≤ X := hX ▸ Int.emod_nonneg _ (by omega)
  have x1 : X < m + 1 := hX ▸ Int.emod_lt_of_pos _ (by omega)
  have y0 : 0 ≤ Y := by omega
  have y1 : Y < 40 := by omega
  have HW := Lib.hid (cutI_id (n := m + 2) (l := 0) (m := 1048576) (by omega) (by omega))
  go_enter Try.func7, Try.ntmps7
  go_wp2_with fail
  refine (bNew_any 9 (m + 2) w).mono ?_
  rintro e w1 ⟨rfl, i1, b1⟩
  rw [HW.out] at i1
  have HS : Hid (Ses w w1 w.heap.size (m + 2) 9 false 0 0) := Lib.hid ⟨i1, b1, Nat.le_refl _⟩
  clear i1 b1
  generalize w.heap.size = b at HS ⊢
  have HX := Lib.hid hX
  have HY := Lib.hid hY
  go_wp2_with fail
  refine (bTake_yes b (m + 2) 9 false 0 0 _ (X + 1) HS.out.is (by omega) (by omega)).mono ?_
  rintro e w2 ⟨he, i1, f1⟩
  obtain rfl : e = .returned (.tuple #[.int .i64 9, .bool true]) := he
  have HS : Hid (Ses w w2 b (m + 2) 9 false (X + 1) 0) := Lib.hid (HS.out.step (by rw [← Int.zero_add (X + 1)]; exact i1) f1)
  clear i1 f1
  go_wp2_with fail
  go_loopw [12] (fun s wr => ∃ k : Int, 9 ≤ k ∧ k ≤ 9 + (X + 1) ∧ s = .int .i64 k ∧ Hid (Ses w wr b (m + 2) 9 false (X + 1) 0)) (fun s _ => (9 + (X + 1) - intOf s).toNat)
  case atStart => exact ⟨9, by omega, by omega, rfl, HS⟩
  case round =>
    clear HS
    obtain ⟨k, k0, k1, rfl, HS⟩ := hrel
    by_cases hk : k < 9 + (X + 1)
    · have E1 := Lib.hid (inB_yes (a := 9) (u := X + 1) (x := k) k0 hk)
      have E2 := Lib.hid (inB_no (a := 9 + (m + 2)) (u := 0) (x := k) (by omega))
      go_wp2_with fail
      refine (bIn_any b (m + 2) 9 false (X + 1) 0 _ k HS.out.is).mono ?_
      rintro e w3 ⟨he, b1⟩
      obtain rfl : e = .returned (.bool true) := he.trans (ret_bool E1.out)
      have HS := Lib.hid (HS.out.keep b1)
      clear b1
      go_wp2_with fail
      refine (bFrom_any b (m + 2) 9 false (X + 1) 0 _ k HS.out.is).mono ?_
      rintro e w4 ⟨he, b1⟩
      obtain rfl : e = .returned (.bool false) := he.trans (ret_bool E2.out)
      have HS := Lib.hid (HS.out.keep b1)
      clear b1
      go_wp2
      go_roundw
      case rel => exact ⟨k + 1, by omega, by omega, rfl, HS⟩
      case measure => simp [intOf]; omega
    · obtain rfl : k = 9 + (X + 1) := by omega
      have E1 := Lib.hid (inB_no (a := 9) (u := X + 1) (x := 9 + (X + 1)) (by omega))
      have E2 := Lib.hid (inB_no (a := 9) (u := X + 1) (x := 8) (by omega))
      go_wp2_with fail
      refine (bIn_any b (m + 2) 9 false (X + 1) 0 _ (9 + (X + 1)) HS.out.is).mono ?_
      rintro e w3 ⟨he, b1⟩
      obtain rfl : e = .returned (.bool false) := he.trans (ret_bool E1.out)
      have HS := Lib.hid (HS.out.keep b1)
      clear b1
      go_wp2_with fail
      refine (bIn_any b (m + 2) 9 false (X + 1) 0 _ 8 HS.out.is).mono ?_
      rintro e w4 ⟨he, b1⟩
      obtain rfl : e = .returned (.bool false) := he.trans (ret_bool E2.out)
      have HS := Lib.hid (HS.out.keep b1)
      clear b1
      by_cases more : X + 1 + (Y + 1) ≤ m + 2
      · have E3 := Lib.hid (inB_yes (a := 9) (u := X + 1 + (Y + 1)) (x := 9 + (X + 1)) (by omega) (by omega))
        go_wp2_with fail
        refine (bTake_yes b (m + 2) 9 false (X + 1) 0 _ (Y + 1) HS.out.is (by omega) (by omega)).mono ?_
        rintro e w5 ⟨he, i1, f1⟩
        obtain rfl : e = .returned (.tuple #[.int .i64 (9 + (X + 1)), .bool true]) := he
        have HS := Lib.hid (HS.out.step i1 f1)
        clear i1 f1
        go_wp2_with fail
        refine (awake_any _).mono ?_
        rintro e w6 ⟨rfl, b1⟩
        have HS := Lib.hid (HS.out.keep b1)
        clear b1
        go_wp2_with fail
        refine (bIn_any b (m + 2) 9 false (X + 1 + (Y + 1)) 0 _ (9 + (X + 1)) HS.out.is).mono ?_
        rintro e w3 ⟨he, b1⟩
        obtain rfl : e = .returned (.bool true) := he.trans (ret_bool E3.out)
        have HS := Lib.hid (HS.out.keep b1)
        clear b1
        go_wp2
        go_ret
        exact ⟨rfl, HS.out.old⟩
      · have md : decide (X + 1 + (Y + 1) ≤ m + 2) = false := decide_eq_false more
        go_wp2_with fail
        refine (bTake_no b (m + 2) 9 false (X + 1) 0 _ (Y + 1) HS.out.is (by omega)).mono ?_
        rintro e w5 ⟨rfl, b1⟩
        have HS := Lib.hid (HS.out.keep b1)
        clear b1
        go_wp2_with fail
        refine (awake_any _).mono ?_
        rintro e w6 ⟨rfl, b1⟩
        have HS := Lib.hid (HS.out.keep b1)
        clear b1
        go_wp2_with fail
        refine (bIn_any b (m + 2) 9 false (X + 1) 0 _ (9 + (X + 1)) HS.out.is).mono ?_
        rintro e w3 ⟨he, b1⟩
        obtain rfl : e = .returned (.bool false) := he.trans (ret_bool E1.out)
        have HS := Lib.hid (HS.out.keep b1)
        clear b1
        go_wp2
        go_ret
        exact ⟨rfl, HS.out.old⟩
end Go.Proofs.Ytbpkoaojhcaahaa

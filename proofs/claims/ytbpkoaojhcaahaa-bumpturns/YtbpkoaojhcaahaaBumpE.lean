/- The walk of BumpTurns. -/
import Derived.Test.YtbpkoaojhcaahaaBumpD
import Derived.Test.YtbpkoaojhcaahaaNums
namespace Go.Proofs.Ytbpkoaojhcaahaa
open Go.RowKit

set_option maxHeartbeats 8000000 in
set_option maxRecDepth 100000 in
theorem bumpTurns_walk (m : Int) (m0 : 0 ≤ m) (m1 : m ≤ 255) (A : Option Addr) (n c : Nat) (w : World) (rd : RdN .u8 0 255 w A n) (hn : n ≤ c) (hc : c ≤ maxLen) :
    Calls Try.prog 6 #[.int .u8 m, .slice A n c] w fun e w' => e = .returned (.bool true) ∧ Below w.heap.size w w' := by
  have nm : n ≤ 9223372036854775807 := by simp only [maxLen] at hc; omega
  have RD := Lib.hid rd
  clear rd hc hn
  have HW := Lib.hid (cutI_id (n := m) (l := 0) (m := 1048576) (by omega) (by omega))
  go_enter Try.func6, Try.ntmps6
  go_wp2_with fail
  refine (bNew_any 3 m w).mono ?_
  rintro e w1 ⟨rfl, i1, b1⟩
  rw [HW.out] at i1
  have HS : Hid (Ses w w1 w.heap.size m 3 false 0 0) := Lib.hid ⟨i1, b1, Nat.le_refl _⟩
  clear i1 b1
  generalize w.heap.size = b at HS ⊢
  go_wp2_with fail
  go_loopw [6] (fun s wr => ∃ (i : Nat) (t : Bool), i ≤ n ∧ i ≤ 40 ∧ s = .int .i64 i ∧ Hid (Ses w wr b m 3 t 0 0)) (fun s _ => 40 - (intOf s).toNat)
  case atStart => exact ⟨0, false, Nat.zero_le _, by omega, rfl, HS⟩
  case round =>
    clear HS
    obtain ⟨i, t, hin, hi4, rfl, HS⟩ := hrel
    by_cases ilt : i < n ∧ i < 40
    · obtain ⟨il, i4⟩ := ilt
      obtain ⟨ad, x, rfl, x0, x1, rc⟩ := RD.out i il
      have RC := Lib.hid rc
      clear rc
      have r0 := RC.out _ HS.out.old
      go_wp2_with fail
      refine (bBegin_any b m 3 t 0 0 _ HS.out.is).mono ?_
      rintro e w2 ⟨rfl, b1⟩
      clear r0
      have HS := Lib.hid (HS.out.keep b1)
      have r0 := RC.out _ HS.out.old
      clear b1
      obtain ⟨A0, hA0⟩ : ∃ A0, hAt m 3 t = A0 := ⟨_, rfl⟩
      obtain ⟨A1, hA1⟩ : ∃ A1, hAt m 3 (!t) = A1 := ⟨_, rfl⟩
      rw [hA0, hA1]
      have HA0 := Lib.hid hA0
      have HA1 := Lib.hid hA1
      clear hA0 hA1
      by_cases ok : 1 ≤ x ∧ x ≤ m
      · obtain ⟨k0, k1⟩ := ok
        go_wp2_with fail
        refine (bTake_yes b m 3 t 0 0 _ x HS.out.is k0 (by omega)).mono ?_
        rw [HA0.out, Int.add_zero, Int.zero_add]
        rintro e w3 ⟨rfl, i1, f1⟩
        clear r0
        have HS := Lib.hid (HS.out.step i1 f1)
        have r0 := RC.out _ HS.out.old
        clear i1 f1
        go_wp2_with fail
        refine (bFlip_yes b m 3 t x _ HS.out.is).mono ?_
        rintro e w4 ⟨rfl, i1, f1⟩
        clear r0
        have HS := Lib.hid (HS.out.step i1 f1)
        clear i1 f1
        go_wp2_with fail
        refine (bBegin_any b m 3 (!t) 0 x _ HS.out.is).mono ?_
        rw [Bool.not_not, HA0.out, HA1.out]
        rintro e w5 ⟨rfl, b1⟩
        have HS := Lib.hid (HS.out.keep b1)
        clear b1
        go_wp2_with fail
        refine (bRoom_any b m 3 (!t) 0 x _ HS.out.is).mono ?_
        rw [Int.sub_zero]
        rintro e w6 ⟨rfl, b1⟩
        have HS := Lib.hid (HS.out.keep b1)
        clear b1
        go_wp2_with fail
        refine (bDrop_yes b m 3 (!t) 0 x _ HS.out.is (by omega)).mono ?_
        rintro e w7 ⟨rfl, i1, f1⟩
        have HS := Lib.hid (HS.out.step i1 f1)
        clear i1 f1
        go_wp2_with fail
        refine (bLeft_any b m 3 (!t) 0 0 _ HS.out.is).mono ?_
        rintro e w8 ⟨rfl, b1⟩
        have HS := Lib.hid (HS.out.keep b1)
        clear b1
        go_wp2
        go_roundw
        case rel => exact ⟨i + 1, !t, by omega, by omega, by go_num, HS⟩
        case measure => simp [intOf]; omega
      · go_wp2_with fail
        refine (bTake_no b m 3 t 0 0 _ x HS.out.is (by omega)).mono ?_
        rintro e w3 ⟨rfl, b1⟩
        clear r0
        have HS := Lib.hid (HS.out.keep b1)
        have r0 := RC.out _ HS.out.old
        clear b1
        by_cases x00 : 0 < x
        all_goals
          have xd : decide (0 < x ∧ x ≤ m) = false := decide_eq_false (by omega)
          try have xe : decide (x ≤ m) = false := decide_eq_false (by omega)
          go_wp2_with fail
          refine (bFlip_yes b m 3 t 0 _ HS.out.is).mono ?_
          rintro e w4 ⟨rfl, i1, f1⟩
          clear r0
          have HS := Lib.hid (HS.out.step i1 f1)
          clear i1 f1
          go_wp2_with fail
          refine (bBegin_any b m 3 (!t) 0 0 _ HS.out.is).mono ?_
          rw [Bool.not_not, HA0.out, HA1.out]
          rintro e w5 ⟨rfl, b1⟩
          have HS := Lib.hid (HS.out.keep b1)
          clear b1
          go_wp2_with fail
          refine (bRoom_any b m 3 (!t) 0 0 _ HS.out.is).mono ?_
          rw [Int.sub_zero]
          rintro e w6 ⟨rfl, b1⟩
          have HS := Lib.hid (HS.out.keep b1)
          clear b1
          go_wp2_with fail
          refine (bDrop_no b m 3 (!t) 0 _ HS.out.is).mono ?_
          rintro e w7 ⟨rfl, b1⟩
          have HS := Lib.hid (HS.out.keep b1)
          clear b1
          go_wp2_with fail
          refine (bLeft_any b m 3 (!t) 0 0 _ HS.out.is).mono ?_
          rintro e w8 ⟨rfl, b1⟩
          have HS := Lib.hid (HS.out.keep b1)
          clear b1
          go_wp2
          go_roundw
          case rel => exact ⟨i + 1, !t, by omega, by omega, by go_num, HS⟩
          case measure => simp [intOf]; omega
    · by_cases hin2 : i < n
      all_goals
        try have h40 : ¬ i < 40 := by omega
        go_wp2_with fail
        refine (awake_any _).mono ?_
        rintro e w2 ⟨rfl, b1⟩
        go_wp2
        go_ret
        exact ⟨rfl, (HS.out.keep b1).old⟩
end Go.Proofs.Ytbpkoaojhcaahaa

/- The walk of CardParts. -/
import Derived.Test.YtckmijhmjnhfaaaCardC
namespace Go.Proofs.Ytckmijhmjnhfaaa
open Go.RowKit

theorem cutI_id {n l m : Int} (h0 : l ≤ n) (h1 : n ≤ m) : cutI n l m = n := by rw [cutI, if_neg (by omega), if_neg (by omega)]

/-- The parts' numbers: L where the n-th begins, E where it ends. -/
theorem parts_of {F W C : Int} {n len : Nat} (w0 : 0 ≤ W) (w1 : W ≤ 1048576) (c0 : 1 ≤ C) (hl : (len : Int) = (W + C - 1) / C) (hn : n < len) :
    F < endI F W C n ∧ (n : Int) * C < W ∧ F + (n : Int) * C < endI F W C n ∧ endI F W C n ≤ F + W ∧ (endI F W C n - 1 - F) / C = n ∧ ((F + (n : Int) * C) - F) / C = n ∧ 0 ≤ (n : Int) * C ∧
    (n + 1 < len → endI F W C n = F + (n + 1 : Nat) * C) ∧ (n + 1 = len → endI F W C n = F + W) := by
  have k := marks_in w0 w1 c0
  rw [← hl] at k
  have p0 : 0 ≤ (n : Int) * C := Int.mul_nonneg (by omega) (by omega)
  have h1 : ((n : Int) + 1) * C ≤ len * C := Int.mul_le_mul_of_nonneg_right (by omega) (by omega)
  have h2 : ((n : Int) + 1) * C = n * C + C := by rw [Int.add_mul, Int.one_mul]
  have h3 : n + 1 < len → ((n : Int) + 2) * C ≤ len * C := fun h => Int.mul_le_mul_of_nonneg_right (by omega) (by omega)
  have h4 : ((n : Int) + 2) * C = n * C + 2 * C := by rw [Int.add_mul]
  have h5 : n + 1 = len → (len : Int) * C = ((n : Int) + 1) * C := fun h => by rw [show (len : Int) = (n : Int) + 1 by omega]
  have hd1 : ((F + (n : Int) * C) - F) / C = n := by
    rw [show F + (n : Int) * C - F = n * C by omega]
    exact Int.mul_ediv_cancel _ (by omega)
  have hd2 : (endI F W C n - 1 - F) / C = n := by
    rw [Int.ediv_eq_iff_of_pos (by omega)]
    unfold endI
    constructor
    · split <;> omega
    · split <;> omega
  have e1 : n + 1 < len → endI F W C n = F + (n + 1 : Nat) * C := fun h => by
    have := h3 h
    rw [show ((n + 1 : Nat) : Int) = (n : Int) + 1 by omega, h2]
    unfold endI
    split <;> omega
  have e2 : n + 1 = len → endI F W C n = F + W := fun h => by
    have := h5 h
    unfold endI
    split <;> omega
  refine ⟨?_, by omega, ?_, ?_, hd2, hd1, p0, e1, e2⟩
  all_goals
    unfold endI
    split <;> omega

theorem first_set (len n : Nat) (h : n < len) : FirstA ((List.replicate len false).set n true) 0 n true := by
  refine Or.inl ⟨n, rfl, rfl, by omega, by rw [List.getElem?_set_self (by rw [List.length_replicate]; exact h)], fun i _ h2 => ?_⟩
  rw [List.getElem?_set_ne (by omega), List.getElem?_replicate, if_pos (by omega)]

theorem set_back (len n : Nat) : ((List.replicate len false).set n true).set n false = List.replicate len false := by
  apply List.ext_getElem?
  intro i
  rw [List.set_set, List.getElem?_set, List.getElem?_replicate, List.length_replicate]
  by_cases e : n = i
  · subst e; rw [if_pos rfl]
  · rw [if_neg e]

theorem count_none (len : Nat) : (List.replicate len false).count true = 0 := by rw [List.count_replicate]; rfl

/-- What the loop carries on. -/
def NextR (F W C : Int) (len n : Nat) (N : Int) : Prop := (n < len → N = F + (n : Int) * C) ∧ (n = len → N = F + W)

set_option maxHeartbeats 8000000 in
set_option maxRecDepth 100000 in
theorem cardParts_walk (F m s : Int) (f0 : 0 ≤ F) (f1 : F ≤ 65535) (m0 : 0 ≤ m) (s0 : 0 ≤ s) (s1 : s ≤ 255) (w : World) :
    Calls Try.prog 4 #[.int .u16 F, .int .u16 m, .int .u8 s] w fun e w' => e = .returned (.bool true) ∧ Below w.heap.size w w' := by
  obtain ⟨W, hW⟩ : ∃ W, m % 3000 = W := ⟨_, rfl⟩
  have hW2 : m.tmod 3000 = W := by rw [← hW]; exact Int.tmod_eq_emod_of_nonneg m0
  have w0 : 0 ≤ W := by omega
  have w1 : W ≤ 2999 := by omega
  obtain ⟨C, hC⟩ : ∃ C, s + 1 = C := ⟨_, rfl⟩
  have c0 : 1 ≤ C := by omega
  have c1 : C ≤ 256 := by omega
  have X1 := Lib.hid (cutI_id (n := F) (l := 0) (m := 1048576) (by omega) (by omega))
  have X2 := Lib.hid (cutI_id (n := W) (l := 0) (m := 1048576) (by omega) (by omega))
  have X3 := Lib.hid (cutI_id (n := C) (l := 1) (m := 1048576) (by omega) (by omega))
  go_enter Try.func4, Try.ntmps4
  go_wp2_with fail
  refine (cNew_any F W C w).mono ?_
  rw [X1.out, X2.out, X3.out]
  rintro e w1 ⟨b, mb, rfl, g1, g2, ⟨len, hN, i1⟩, b1⟩
  have HS : Hid (Ses w w1 b mb F W C (List.replicate len false)) := Lib.hid ⟨i1, b1, g1, g2⟩
  have HN := Lib.hid hN
  have mi := marks_in w0 (by omega) c0
  rw [← hN] at mi
  obtain ⟨_, _, q2, q3⟩ := mi
  clear i1 b1 g1 g2 hN X1 X2 X3
  go_wp2_with fail
  go_loopw [11, 12] (fun s11 s12 wr => ∃ (n : Nat) (N : Int), s12 = .int .i64 n ∧ s11 = .int .i64 N ∧ n ≤ len ∧ NextR F W C len n N ∧ Hid (Ses w wr b mb F W C (List.replicate len false))) (fun _ s _ => len - (intOf s).toNat)
  case atStart => exact ⟨0, F, rfl, rfl, Nat.zero_le _, ⟨fun _ => by omega, fun h => by subst h; simp at q2; omega⟩, HS⟩
  case round =>
    clear HS
    obtain ⟨n, N, rfl, rfl, hn, hx, HS⟩ := hrel
    by_cases hlt : n < len
    · obtain ⟨k0, k1, k2, k3, k4, k5, k6, k7, k8⟩ := parts_of (F := F) w0 (by omega) c0 HN.out hlt
      obtain rfl := hx.1 hlt
      have HP := Lib.hid (fun v h => cPart_yes b mb F W C (List.replicate len false) v n h (by omega) (by rw [List.length_replicate]; omega))
      obtain ⟨L, hL⟩ : ∃ L, (n : Int) * C = L := ⟨_, rfl⟩
      obtain ⟨E, hE⟩ : ∃ E, endI F W C n = E := ⟨_, rfl⟩
      rw [hL] at k1 k2 k5 k6 HP ⊢
      rw [hE] at k0 k2 k3 k4 k7 k8 HP
      have K4 := Lib.hid k4
      have K5 := Lib.hid k5
      have K7 := Lib.hid k7
      have K8 := Lib.hid k8
      have hc : (List.replicate len false)[n]? = some false := by rw [List.getElem?_replicate, if_pos hlt]
      have FA := Lib.hid (first_set len n hlt)
      have SB := Lib.hid (set_back len n)
      clear k4 k5 k7 k8 hx hc hE
      go_wp2_with fail
      refine (HP.out _ HS.out.is).mono ?_
      rintro e w3 ⟨rfl, b1⟩
      have HS := Lib.hid (HS.out.keep b1)
      clear b1
      go_wp2_with fail
      refine (cMark_yes b mb F W C _ _ (E - 1) n HS.out.is (by omega) (by omega) K4.out).mono ?_
      rintro e w4 ⟨rfl, t1⟩
      have HS := Lib.hid (HS.out.step t1)
      clear t1
      go_wp2_with fail
      refine (cMarked_yes b mb F W C _ _ (F + L) n true HS.out.is (by omega) (by omega) K5.out (by rw [List.getElem?_set_self (by rw [List.length_replicate]; exact hlt)])).mono ?_
      rintro e w5 ⟨rfl, b1⟩
      have HS := Lib.hid (HS.out.keep b1)
      clear b1
      go_wp2_with fail
      refine (cFirst_any b mb F W C _ _ 0 HS.out.is (by omega)).mono ?_
      rintro e w6 ⟨r, ok, he, hf, rfl⟩
      obtain ⟨rfl, rfl⟩ := hf.one FA.out
      subst he
      clear hf
      go_wp2_with fail
      refine (cClear_yes b mb F W C _ _ n true HS.out.is (by rw [List.getElem?_set_self (by rw [List.length_replicate]; exact hlt)])).mono ?_
      rintro e w7 ⟨rfl, t1⟩
      rw [SB.out] at t1
      have HS := Lib.hid (HS.out.step t1)
      clear t1
      go_wp2
      go_roundw
      case rel => exact ⟨n + 1, E, by go_num, rfl, by omega, ⟨K7.out, K8.out⟩, HS⟩
      case measure => simp [intOf]; omega
    · obtain rfl : n = len := by omega
      obtain rfl := hx.2 rfl
      clear hx
      obtain ⟨L, hL⟩ : ∃ L, (n : Int) * C = L := ⟨_, rfl⟩
      rw [hL] at q2 q3
      have CN := Lib.hid (count_none n)
      go_wp2_with fail
      refine (awake_any _).mono ?_
      rintro e w4 ⟨rfl, b1⟩
      have HS := Lib.hid (HS.out.keep b1)
      clear b1
      go_wp2_with fail
      refine (cCount_any b mb F W C _ _ HS.out.is).mono ?_
      rw [CN.out]
      rintro e w5 ⟨he, rfl⟩
      obtain rfl : e = .returned (.int .i64 0) := he
      go_wp2
      go_ret
      exact ⟨rfl, HS.out.old⟩
end Go.Proofs.Ytckmijhmjnhfaaa

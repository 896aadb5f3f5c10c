/- The walk of the statement HeadTurned. -/
import Derived.Test.YtjfijpbmbdjmjaaHeadF
namespace Go.Proofs.Ytjfijpbmbdjmjaa
open Go.RowKit

/-- A word with one bit turned. -/
def turnI (W : Int) (j : Nat) : Int := bits .xor .u64 W (IntKind.u64.wrap (2 ^ j))

theorem turn_nat (W : Int) (j : Nat) (h0 : 0 ≤ W) (h1 : W < 18446744073709551616) (hj : j < 64) : turnI W j = ((W.toNat ^^^ 2 ^ j : Nat) : Int) := by
  unfold turnI
  have hp : 2 ^ j < 18446744073709551616 := by
    have : (18446744073709551616 : Nat) = 2 ^ 64 := by simp
    rw [this]
    exact Nat.pow_lt_pow_right (by omega) hj
  have e : ((2 : Int) ^ j) = ((2 ^ j : Nat) : Int) := by simp
  have e2 : IntKind.u64.wrap (2 ^ j) = ((2 ^ j : Nat) : Int) := by
    rw [e]
    generalize 2 ^ j = q at *
    simp only [IntKind.wrap_u64]
    omega
  rw [e2, u64_xor W ((2 ^ j : Nat) : Int) h0 h1 (Int.natCast_nonneg _) (by omega), Int.toNat_natCast]

theorem turn_bounds (W : Int) (j : Nat) (h0 : 0 ≤ W) (h1 : W < 18446744073709551616) (hj : j < 64) : 0 ≤ turnI W j ∧ turnI W j < 18446744073709551616 := by
  rw [turn_nat W j h0 h1 hj]
  have h64 : (18446744073709551616 : Nat) = 2 ^ 64 := by simp
  have hx : W.toNat ^^^ 2 ^ j < 2 ^ 64 := Nat.xor_lt_two_pow (by rw [← h64]; omega) (Nat.pow_lt_pow_right (by omega) hj)
  rw [← h64] at hx
  omega

theorem turn_ne (W : Int) (j : Nat) (h0 : 0 ≤ W) (h1 : W < 18446744073709551616) (hj : j < 64) : turnI W j ≠ W := by
  rw [turn_nat W j h0 h1 hj]
  intro e
  have e1 : W.toNat ^^^ 2 ^ j = W.toNat := by omega
  have e2 : (W.toNat ^^^ 2 ^ j).testBit j = W.toNat.testBit j := by rw [e1]
  rw [Nat.testBit_xor, Nat.testBit_two_pow_self] at e2
  cases h : W.toNat.testBit j <;> rw [h] at e2 <;> cases e2

theorem bit44 (x : Nat) (h0 : 17592186044416 ≤ x) (h1 : x < 35184372088832) : x.testBit 44 = true := by
  have e : x / 2 ^ 44 = 1 := by simp only [Nat.reducePow]; omega
  simp [Nat.testBit, Nat.shiftRight_eq_div_pow, e]

theorem turn_no (W : Int) (j : Nat) (h0 : 17592186044416 ≤ W) (h1 : W < 35184372088832) (hj : j < 64) (h44 : 44 ≤ j) : isHd (turnI W j) = false := by
  rw [Bool.eq_false_iff]
  intro h
  obtain ⟨s, p, a, y, g, n, o, hg, e⟩ := (isHd_iff _).1 h
  obtain ⟨l1, l2⟩ := word_bounds s p a y g n o hg
  rw [e, turn_nat W j (by omega) (by omega) hj] at l1 l2
  have b1 := bit44 (W.toNat ^^^ 2 ^ j) (by omega) (by omega)
  have b2 := bit44 W.toNat (by omega) (by omega)
  by_cases hj4 : j = 44
  · subst hj4
    rw [Nat.testBit_xor, Nat.testBit_two_pow_self, b2] at b1
    cases b1
  · have b3 : (W.toNat ^^^ 2 ^ j).testBit j = true := by
      have hlt : W.toNat < 2 ^ j := Nat.lt_of_lt_of_le (show W.toNat < 2 ^ 45 by simp only [Nat.reducePow]; omega) (Nat.pow_le_pow_right (by omega) (by omega))
      rw [Nat.testBit_xor, Nat.testBit_two_pow_self, Nat.testBit_lt_two_pow hlt]
      rfl
    have b4 := Nat.ge_two_pow_of_testBit b3
    have b5 : 2 ^ 45 ≤ 2 ^ j := Nat.pow_le_pow_right (by omega) (by omega)
    simp only [Nat.reducePow] at b5
    omega

set_option maxHeartbeats 2000000 in
theorem headTurned_walk (s p a y : Int) (g n o : Bool) (k : Int) (k0 : 0 ≤ k) (k1 : k ≤ 255) (w : World) :
    Calls Try.prog 6 #[hdV s p a y g n o, .int .u8 k] w fun e w' => e = .returned (.bool true) ∧ Below w.heap.size w w' := by
  cases hg : goodB s p a y
  · go_enter Try.func6, Try.ntmps6
    go_wp2_with fail
    refine (pack_no _ _ _ _ _ _ _ _ hg).mono ?_
    rintro e w1 ⟨rfl, b1⟩
    go_wp2_with fail
    refine (awake_any _).mono ?_
    rintro e w3 ⟨rfl, b3⟩
    go_wp2
    go_ret
    exact ⟨rfl, below_trans (below_alloc_trans _ b1) b3⟩
  obtain ⟨l1, l2⟩ := word_bounds s p a y g n o hg
  have P := pack_yes s p a y g n o
  have hj : (k % 64).toNat < 64 := by omega
  have tb := turn_bounds (wordI s p a y g n o) (k % 64).toNat (by omega) (by omega) hj
  have tn := turn_ne (wordI s p a y g n o) (k % 64).toNat (by omega) (by omega) hj
  have tno := turn_no (wordI s p a y g n o) (k % 64).toNat l1 l2 hj
  have te : bits .xor .u64 (wordI s p a y g n o) (IntKind.u64.wrap (2 ^ (k % 64).toNat)) = turnI (wordI s p a y g n o) (k % 64).toNat := rfl
  have wi : ∀ S PP A Y G N O, goodB S PP A Y = true → wordI S PP A Y G N O = turnI (wordI s p a y g n o) (k % 64).toNat → ¬ (S = s ∧ PP = p ∧ A = a ∧ Y = y ∧ G = g ∧ N = n ∧ O = o) := by
    rintro S PP A Y G N O h e ⟨rfl, rfl, rfl, rfl, rfl, rfl, rfl⟩
    exact tn e.symm
  generalize turnI (wordI s p a y g n o) (k % 64).toNat = T at *
  generalize wordI s p a y g n o = X at *
  obtain ⟨t0, t1⟩ := tb
  have HP := Lib.hid P
  clear P l1 l2 tn hj
  have HT := Lib.hid te
  clear te
  cases hh : isHd T
  · clear wi tno
    go_enter Try.func6, Try.ntmps6
    go_wp2_with fail
    refine (HP.out _ hg).mono ?_
    rintro e w1 ⟨rfl, b1⟩
    have m1 := (Blk.new w _ _).keep b1
    go_wp2_with fail
    rw [HT.out]
    refine (unpack_no T t0 t1 _ hh).mono ?_
    rintro e w2 ⟨rfl, b2⟩
    have m2 := m1.keep b2
    go_wp2_with fail
    refine (awake_any _).mono ?_
    rintro e w3 ⟨rfl, b3⟩
    obtain ⟨f0, f1, f2, f3, f4, f5, f6, _⟩ := ((m2.alloc _).keep b3).seven
    obtain ⟨c0, c1, c2, c3, c4, c5, c6, _⟩ := ((Blk.new w2 _ _).keep b3).seven
    clear m1 m2
    go_wp2
    all_goals
      go_ret
      exact ⟨by simp, below_trans (below_trans (below_alloc_trans _ b1) b2) (below_alloc_trans _ b3)⟩
  · have h44 : k % 64 < 44 := by
      by_cases h : 44 ≤ (k % 64).toNat
      · have := tno h; rw [hh] at this; cases this
      · omega
    have hh' := hh
    simp only [isHd, Bool.and_eq_true, beq_iff_eq] at hh'
    have WI := wi _ _ _ _ _ _ _ hh'.1 hh'.2
    have HWI := Lib.hid WI
    clear wi tno hh' WI
    have q1 : decide (k % 64 < 45) = true := by rw [decide_eq_true_eq]; omega
    have q2 : (k % 64 != 44) = true := by rw [bne_iff_ne]; omega
    go_enter Try.func6, Try.ntmps6
    go_wp2_with fail
    refine (HP.out _ hg).mono ?_
    rintro e w1 ⟨rfl, b1⟩
    have m1 := (Blk.new w _ _).keep b1
    go_wp2_with fail
    rw [HT.out]
    refine (unpack_yes T t0 t1 _ hh).mono ?_
    rintro e w2 ⟨rfl, b2⟩
    have m2 := m1.keep b2
    go_wp2_with fail
    refine (awake_any _).mono ?_
    rintro e w3 ⟨rfl, b3⟩
    obtain ⟨f0, f1, f2, f3, f4, f5, f6, _⟩ := ((m2.alloc _).keep b3).seven
    obtain ⟨c0, c1, c2, c3, c4, c5, c6, _⟩ := ((Blk.new w2 _ _).keep b3).seven
    clear m1 m2
    go_wp2
    all_goals
      first
      | exact absurd ⟨‹_›, ‹_›, ‹_›, ‹_›, ‹_›, ‹_›, ‹_›⟩ HWI.out
      | (go_ret
         exact ⟨by simp, below_trans (below_trans (below_alloc_trans _ b1) b2) (below_alloc_trans _ b3)⟩)
end Go.Proofs.Ytjfijpbmbdjmjaa

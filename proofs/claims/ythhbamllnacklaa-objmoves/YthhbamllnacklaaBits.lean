/- Plain lemmas on bits of 64-bit words, of no program. -/
import Derived.Laws.BitsAllLaws
namespace Go.Proofs.Ythhbamllnacklaa

theorem nat_or_lo (i x c : Nat) (h : x < 2 ^ i) : x ||| (c * 2 ^ i) = x + c * 2 ^ i := by
  rw [Nat.mul_comm, Nat.or_comm, ← Nat.two_pow_add_eq_or_of_lt h, Nat.add_comm]

theorem nat_or_bit (i x b : Nat) (h : x % 2 ^ (i + 1) < 2 ^ i) (hb : b = 0 ∨ b = 2 ^ i) : x ||| b = x + b := by
  rcases hb with rfl | rfl
  · simp
  · have hp : 2 ^ (i + 1) = 2 * 2 ^ i := by rw [Nat.pow_succ]; omega
    have e : x = 2 ^ (i + 1) * (x / 2 ^ (i + 1)) + x % 2 ^ (i + 1) := (Nat.div_add_mod _ _).symm
    generalize x / 2 ^ (i + 1) = q at *
    generalize x % 2 ^ (i + 1) = l at *
    subst e
    have e1 : 2 ^ (i + 1) * q + l = 2 ^ (i + 1) * q ||| l := Nat.two_pow_add_eq_or_of_lt (by omega) q
    have e2 : 2 ^ i * 1 + l = 2 ^ i * 1 ||| l := Nat.two_pow_add_eq_or_of_lt h 1
    have e3 : 2 ^ (i + 1) * q + (2 ^ i * 1 + l) = 2 ^ (i + 1) * q ||| (2 ^ i * 1 + l) := Nat.two_pow_add_eq_or_of_lt (by omega) q
    rw [e1, Nat.or_assoc, Nat.or_comm l, ← Nat.mul_one (2 ^ i), ← e2, ← e3, ← e1]
    omega

theorem pow_cast (i : Nat) (M : Int) (hM : (2 : Int) ^ i = M) : M = ((2 ^ i : Nat) : Int) := by rw [← hM]; simp

theorem or_lo (i : Nat) (M : Int) (hM : (2 : Int) ^ i = M) (x c : Int) (h0 : 0 ≤ x) (h1 : x < M) (hc : 0 ≤ c) (hb : c * M < 18446744073709551616) (hx : x < 18446744073709551616) :
    bits .or .u64 x (c * M) = x + c * M := by
  have hm := pow_cast i M hM
  clear hM
  generalize hq : 2 ^ i = q at hm
  subst hm
  obtain ⟨x, rfl⟩ := Int.eq_ofNat_of_zero_le h0
  obtain ⟨c, rfl⟩ := Int.eq_ofNat_of_zero_le hc
  have e : ((c : Int) * (q : Int)) = ((c * q : Nat) : Int) := by simp
  rw [e] at hb ⊢
  rw [u64_or_nat x (c * q) (by omega) (by omega), ← hq, nat_or_lo i x c (by omega)]
  simp

theorem or_bit (i : Nat) (M : Int) (hM : (2 : Int) ^ i = M) (x b : Int) (h0 : 0 ≤ x) (hx : x < 18446744073709551616) (h : x % (2 * M) < M) (hb : b = 0 ∨ b = M) (hbm : b < 18446744073709551616) :
    bits .or .u64 x b = x + b := by
  have hm := pow_cast i M hM
  clear hM
  generalize hq : 2 ^ i = q at hm
  subst hm
  obtain ⟨x, rfl⟩ := Int.eq_ofNat_of_zero_le h0
  obtain ⟨b, rfl⟩ := Int.eq_ofNat_of_zero_le (show 0 ≤ b by omega)
  rw [u64_or_nat x b (by omega) (by omega), nat_or_bit i x b]
  · simp
  · rw [Nat.pow_succ, hq, Nat.mul_comm]; exact_mod_cast h
  · rw [hq]; omega

theorem or_bit1 (i : Nat) (M : Int) (hM : (2 : Int) ^ i = M) (x B : Int) (h0 : 0 ≤ x) (hx : x < 18446744073709551616) (h : x % (2 * M) < M) (hB0 : 0 ≤ B) (hB1 : B ≤ 1) (hM64 : M < 18446744073709551616) :
    bits .or .u64 x (M * B) = x + M * B := by
  have hB : B = 0 ∨ B = 1 := by omega
  rcases hB with rfl | rfl
  · exact or_bit i M hM x _ h0 hx h (by simp) (by simp)
  · exact or_bit i M hM x _ h0 hx h (by simp) (by simpa using hM64)

theorem nat_and_bit (i x : Nat) : x &&& 2 ^ i = 2 ^ i * (x / 2 ^ i % 2) := by
  apply Nat.eq_of_testBit_eq
  intro j
  rw [Nat.testBit_and, Nat.testBit_two_pow]
  by_cases h : i = j
  · subst h
    rw [Nat.testBit_two_pow_mul]
    simp [Nat.testBit, Nat.shiftRight_eq_div_pow]
  · rw [Nat.testBit_two_pow_mul]
    have : j ≠ i := fun e => h e.symm
    by_cases hj : i ≤ j
    · have h1 : x / 2 ^ i % 2 < 2 ^ (j - i) := Nat.lt_of_lt_of_le (Nat.mod_lt _ (by omega)) (Nat.le_trans (by omega : 2 ≤ 2 ^ 1) (Nat.pow_le_pow_right (by omega) (by omega)))
      simp [h, Nat.testBit_lt_two_pow h1]
    · simp [h, hj]

/-- One bit of a word. -/
def bitB (m x : Int) : Bool := decide (x / m % 2 = 1)

theorem and_bit (i : Nat) (M : Int) (hM : (2 : Int) ^ i = M) (hM64 : M < 18446744073709551616) (x : Int) (h0 : 0 ≤ x) (hx : x < 18446744073709551616) :
    (bits .and .u64 x M != 0) = bitB M x := by
  have hm := pow_cast i M hM
  clear hM
  have hp := Nat.two_pow_pos i
  generalize hq : 2 ^ i = q at hm hp
  subst hm
  obtain ⟨x, rfl⟩ := Int.eq_ofNat_of_zero_le h0
  rw [u64_and_nat x q (by omega) (by omega), ← hq, nat_and_bit, hq]
  have e : ((x : Int) / (q : Int) % 2) = ((x / q % 2 : Nat) : Int) := by simp
  rw [bitB, e]
  rcases Nat.mod_two_eq_zero_or_one (x / q) with h | h <;> rw [h] <;> simp <;> omega

theorem and_mask (i : Nat) (M N : Int) (hM : (2 : Int) ^ i = N) (hN : M + 1 = N) (hM64 : M < 18446744073709551616) (x : Int) (h0 : 0 ≤ x) (hx : x < 18446744073709551616) :
    bits .and .u64 x M = x % N := by
  have hm := pow_cast i N hM
  have hp := Nat.two_pow_pos i
  clear hM
  obtain ⟨x, rfl⟩ := Int.eq_ofNat_of_zero_le h0
  have e : M = ((2 ^ i - 1 : Nat) : Int) := by omega
  have e2 := u64_and_nat x (2 ^ i - 1) (by omega) (by omega)
  rw [e, e2, Nat.and_two_pow_sub_one_eq_mod, hm, Int.natCast_emod]
end Go.Proofs.Ythhbamllnacklaa

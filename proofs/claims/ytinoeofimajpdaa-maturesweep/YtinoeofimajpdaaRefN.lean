/- The size of a cell and the number of pages as functions of numbers; what is so of them; the contracts of the document's Round and Pages. -/
import Derived.Test.YtinoeofimajpdaaLaw
namespace Go.Proofs.Ytinoeofimajpdaa
open Go.RowKit

theorem quiet_below {k : Nat} {xs : Array Value} {w : World} {v : Value} (h : Calls Try.prog k xs w fun e w' => e = .returned v ∧ w = w') :
    Calls Try.prog k xs w fun e w' => e = .returned v ∧ Below w.heap.size w w' := h.mono fun e w' ⟨he, hw⟩ => ⟨he, by subst hw; exact Below.refl _ _⟩

/-- The least of the sizes a, 3a/2, 2a, .. that is w or more, k doublings far; behind them the last. -/
def rnd : Nat → Int → Int → Int
  | 0, a, _ => a
  | k + 1, a, w => if w ≤ a then a else if w ≤ a + a / 2 then a + a / 2 else rnd k (2 * a) w

def roundI (w : Int) : Int := rnd 38 4 w

theorem rnd_first {k : Nat} {a w : Int} (h : w ≤ a) : rnd (k + 1) a w = a := by unfold rnd; rw [if_pos h]
theorem rnd_second {k : Nat} {a w : Int} (h : ¬ w ≤ a) (h2 : w ≤ a + a / 2) : rnd (k + 1) a w = a + a / 2 := by unfold rnd; rw [if_neg h, if_pos h2]
theorem rnd_more {k : Nat} {a w : Int} (h : ¬ w ≤ a) (h2 : ¬ w ≤ a + a / 2) : rnd (k + 1) a w = rnd k (2 * a) w := by rw [rnd, if_neg h, if_neg h2]

/-- a, doubled k times, is 2^40. -/
def Far : Nat → Int → Prop
  | 0, a => a = 1099511627776
  | k + 1, a => 4 ≤ a ∧ a % 4 = 0 ∧ a ≤ 549755813888 ∧ Far k (2 * a)

theorem far_start : Far 38 4 := by
  simp [Far]

theorem far_bounds {k : Nat} {a : Int} (h : Far k a) : 4 ≤ a ∧ a % 4 = 0 ∧ a ≤ 1099511627776 := by
  cases k with
  | zero => cases h; omega
  | succ k => obtain ⟨h0, h1, h2, _⟩ := h; omega

set_option maxHeartbeats 1000000 in
theorem refRound_any (n : Int) (w : World) :
    Calls Try.prog 33 #[.int .i64 n] w fun e w' => e = .returned (.int .i64 (roundI n)) ∧ w = w' := by
  go_enter Try.func33, Try.ntmps33
  go_wp2_with fail
  go_loopw [3, 4] (fun s s2 wr => ∃ (k : Nat) (h : Int), s = .int .i64 (2 * h) ∧ s2 = .int .i64 (3 * h) ∧ Far k (2 * h) ∧ roundI n = rnd k (2 * h) n ∧ w = wr) (fun s _ _ => (1099511627776 - intOf s).toNat)
  case atStart => exact ⟨38, 2, rfl, rfl, far_start, rfl, rfl⟩
  case round =>
    obtain ⟨k, h, rfl, rfl, hf, hr, rfl⟩ := hrel
    have hd : (2 * h) / 2 = h := by omega
    cases k with
    | zero =>
      have hf : 2 * h = 1099511627776 := hf
      have HR := Lib.hid hr
      clear hr
      obtain rfl : h = 549755813888 := by omega
      go_wp2
      go_ret
      exact ⟨by rw [HR.out]; rfl, rfl⟩
    | succ k =>
      obtain ⟨f0, f1, f2, f3⟩ := hf
      have HR := Lib.hid hr
      have HF := Lib.hid f3
      clear hr f3
      by_cases h1 : n ≤ 2 * h
      · have E := Lib.hid (HR.out.trans (rnd_first h1))
        go_wp2
        go_ret
        exact ⟨by rw [E.out]; rfl, rfl⟩
      · by_cases h2 : n ≤ 3 * h
        · have E := Lib.hid (show roundI n = 3 * h from by rw [HR.out, rnd_second h1 (by omega)]; omega)
          go_wp2
          go_ret
          exact ⟨by rw [E.out]; rfl, rfl⟩
        · have E := Lib.hid (HR.out.trans (rnd_more h1 (by omega)))
          go_wp2
          go_roundw
          case rel => exact ⟨k, 2 * h, by go_num, by go_num, HF.out, E.out, by trivial⟩
          case measure => simp [intOf]; omega
def pagesI (p w : Int) : Int := if p < 1 ∨ w < 1 then 0 else (w - 1) / p + 1

theorem tdiv_of {a b : Int} (h : 0 ≤ a) : a.tdiv b = a / b := Int.tdiv_eq_ediv_of_nonneg h

/-- As many pages as the quotient says, and one more for what is left. -/
theorem pagesI_left {p n : Int} (hp : ¬ p < 1) (hn : ¬ n < 1) (h : 0 < n % p) : pagesI p n = n / p + 1 := by
  have e := Int.mul_ediv_add_emod n p
  have l := Int.emod_lt_of_pos n (show 0 < p by omega)
  have : (n - 1) / p = n / p := by
    rw [Int.ediv_eq_iff_of_pos (by omega)]
    constructor
    · rw [Int.mul_comm]; omega
    · rw [Int.mul_comm]; omega
  rw [pagesI, if_neg (by omega), this]

theorem pagesI_even {p n : Int} (hp : ¬ p < 1) (hn : ¬ n < 1) (h : n % p = 0) : pagesI p n = n / p := by
  have e := Int.mul_ediv_add_emod n p
  have : (n - 1) / p = n / p - 1 := by
    have m : p * (n / p - 1) = p * (n / p) - p := by rw [Int.mul_sub, Int.mul_one]
    rw [Int.ediv_eq_iff_of_pos (by omega)]
    constructor
    · rw [Int.mul_comm]; omega
    · rw [Int.mul_comm]; omega
  rw [pagesI, if_neg (by omega), this]
  omega

set_option maxHeartbeats 1000000 in
theorem refPages_any (p n : Int) (w : World) (hn : n ≤ 9223372036854775807) :
    Calls Try.prog 34 #[.int .i64 p, .int .i64 n] w fun e w' => e = .returned (.int .i64 (pagesI p n)) ∧ w = w' := by
  by_cases h0 : p < 1
  · have E := Lib.hid (show pagesI p n = 0 from if_pos (Or.inl h0))
    go_enter Try.func34, Try.ntmps34
    go_wp2
    go_ret
    exact ⟨by rw [E.out]; rfl, rfl⟩
  · by_cases h1 : n < 1
    · have E := Lib.hid (show pagesI p n = 0 from if_pos (Or.inr h1))
      go_enter Try.func34, Try.ntmps34
      go_wp2
      go_ret
      exact ⟨by rw [E.out]; rfl, rfl⟩
    · have hq : n.tdiv p = n / p := tdiv_of (by omega)
      have hm : n.tmod p = n % p := Int.tmod_eq_emod_of_nonneg (by omega)
      have q0 : 0 ≤ n / p := Int.ediv_nonneg (by omega) (by omega)
      have q1 : n / p ≤ n := Int.ediv_le_self p (by omega)
      have m0 : 0 ≤ n % p := Int.emod_nonneg n (by omega)
      have m1 := Int.emod_lt_of_pos n (show 0 < p by omega)
      by_cases h2 : 0 < n % p
      · have E := Lib.hid (pagesI_left h0 h1 h2)
        have q2 : n / p ≤ n - 1 := by
          have e := Int.mul_ediv_add_emod n p
          have : n / p ≤ p * (n / p) := by
            have := Int.mul_le_mul_of_nonneg_right (show 1 ≤ p by omega) q0
            omega
          omega
        go_enter Try.func34, Try.ntmps34
        go_wp2
        go_ret
        exact ⟨by rw [E.out]; rfl, rfl⟩
      · have E := Lib.hid (pagesI_even h0 h1 (by omega))
        go_enter Try.func34, Try.ntmps34
        go_wp2
        go_ret
        exact ⟨by rw [E.out]; rfl, rfl⟩

theorem rnd_ge {k : Nat} {a n : Int} (h : Far k a) (hn : n ≤ 1099511627776) : n ≤ rnd k a n ∧ a ≤ rnd k a n ∧ rnd k a n ≤ 1099511627776 := by
  induction k generalizing a with
  | zero => cases h; exact ⟨hn, Int.le_refl _, Int.le_refl _⟩
  | succ k ih =>
    obtain ⟨h0, h1, h2, h3⟩ := h
    by_cases g : n ≤ a
    · rw [rnd_first g]; omega
    · by_cases g2 : n ≤ a + a / 2
      · rw [rnd_second g g2]; omega
      · rw [rnd_more g g2]
        have := ih h3
        omega

/-- Any number's size is 4 or more, and 2^40 at most. -/
theorem rnd_in {k : Nat} {a : Int} (n : Int) (h : Far k a) : a ≤ rnd k a n ∧ rnd k a n ≤ 1099511627776 := by
  induction k generalizing a with
  | zero => cases h; exact ⟨Int.le_refl _, Int.le_refl _⟩
  | succ k ih =>
    obtain ⟨h0, h1, h2, h3⟩ := h
    by_cases g : n ≤ a
    · rw [rnd_first g]; omega
    · by_cases g2 : n ≤ a + a / 2
      · rw [rnd_second g g2]; omega
      · rw [rnd_more g g2]
        have := ih h3
        omega

theorem rnd_tight {k : Nat} {a n : Int} (h : Far k a) (hn : n ≤ 1099511627776) (hp : (a = 4 ∧ 0 ≤ n) ∨ 3 * a < 4 * n) : rnd k a n < 2 * n + 7 := by
  induction k generalizing a with
  | zero => cases h; simp only [rnd]; omega
  | succ k ih =>
    obtain ⟨h0, h1, h2, h3⟩ := h
    by_cases g : n ≤ a
    · rw [rnd_first g]; omega
    · by_cases g2 : n ≤ a + a / 2
      · rw [rnd_second g g2]; omega
      · rw [rnd_more g g2]
        exact ih h3 (Or.inr (by omega))

theorem rnd_mono {k : Nat} {a m n : Int} (h : Far k a) (hmn : m ≤ n) : rnd k a m ≤ rnd k a n := by
  induction k generalizing a with
  | zero => exact Int.le_refl _
  | succ k ih =>
    have hb := rnd_in n h
    obtain ⟨h0, h1, h2, h3⟩ := h
    by_cases g : m ≤ a
    · rw [rnd_first g]; omega
    · by_cases g2 : m ≤ a + a / 2
      · rw [rnd_second g g2]
        by_cases g3 : n ≤ a + a / 2
        · rw [rnd_second (by omega) g3]; omega
        · rw [rnd_more (by omega) g3]
          have := rnd_in n h3
          omega
      · rw [rnd_more g g2, rnd_more (by omega) (by omega)]
        exact ih h3

theorem rnd_again {k : Nat} {a : Int} (n : Int) (h : Far k a) : rnd k a (rnd k a n) = rnd k a n := by
  induction k generalizing a with
  | zero => rfl
  | succ k ih =>
    obtain ⟨h0, h1, h2, h3⟩ := h
    by_cases g : n ≤ a
    · rw [rnd_first g, rnd_first (Int.le_refl a)]
    · by_cases g2 : n ≤ a + a / 2
      · rw [rnd_second g g2, rnd_second (by omega) (Int.le_refl _)]
      · rw [rnd_more g g2]
        have := rnd_in n h3
        rw [rnd_more (by omega) (by omega), ih h3]

theorem roundI_ge {n : Int} (hn : n ≤ 1099511627776) : n ≤ roundI n := (rnd_ge far_start hn).1
theorem roundI_in (n : Int) : 4 ≤ roundI n ∧ roundI n ≤ 1099511627776 := rnd_in n far_start
theorem roundI_tight {n : Int} (h0 : 0 ≤ n) (hn : n ≤ 1099511627776) : roundI n < 2 * n + 7 := rnd_tight far_start hn (Or.inl ⟨rfl, h0⟩)
theorem roundI_mono {m n : Int} (h : m ≤ n) : roundI m ≤ roundI n := rnd_mono far_start h
theorem roundI_again (n : Int) : roundI (roundI n) = roundI n := rnd_again n far_start

theorem pagesI_enough {p n : Int} (hp : 1 ≤ p) (hn : 1 ≤ n) : 1 ≤ pagesI p n ∧ pagesI p n ≤ n ∧ n ≤ pagesI p n * p ∧ (pagesI p n - 1) * p < n ∧ pagesI p n * p < n + p := by
  have e := Int.mul_ediv_add_emod (n - 1) p
  have m0 : 0 ≤ (n - 1) % p := Int.emod_nonneg _ (by omega)
  have m1 := Int.emod_lt_of_pos (n - 1) (show 0 < p by omega)
  have q0 : 0 ≤ (n - 1) / p := Int.ediv_nonneg (by omega) (by omega)
  have q1 : (n - 1) / p ≤ n - 1 := Int.ediv_le_self p (by omega)
  rw [show pagesI p n = (n - 1) / p + 1 from if_neg (by omega)]
  have x : ((n - 1) / p + 1) * p = p * ((n - 1) / p) + p := by rw [Int.add_mul, Int.mul_comm, Int.one_mul]
  have y : ((n - 1) / p + 1 - 1) * p = p * ((n - 1) / p) := by rw [Int.add_sub_cancel, Int.mul_comm]
  omega
end Go.Proofs.Ytinoeofimajpdaa

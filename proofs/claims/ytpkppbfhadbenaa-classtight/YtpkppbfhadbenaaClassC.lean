/- Contract of class.Cell; what is so of every size: room, little waste, more words no smaller one. -/
import Derived.Test.YtpkppbfhadbenaaClassB
namespace Go.Proofs.Ytpkppbfhadbenaa
open Go.RowKit

def cellI (p n : Int) : Int := if largeB p n = true then max (IntKind.i64.wrap (pagesI p n * p)) 0 else roundI n

set_option maxHeartbeats 1000000 in
theorem cell_any (p n : Int) (w : World) (h0 : -9223372036854775808 ≤ p) (h1 : p ≤ 9223372036854775807) (hn : n ≤ 9223372036854775807) :
    Calls Try.prog 16 #[.int .i64 p, .int .i64 n] w fun e w' => e = .returned (.int .i64 (cellI p n)) ∧ w = w' := by
  have hL := large_any p n w h0 h1
  cases hl : largeB p n
  all_goals
    rw [hl] at hL
    have HL := Lib.hid hL
    clear hL
  · have E := Lib.hid (show cellI p n = roundI n from if_neg (by rw [hl]; exact Bool.false_ne_true))
    clear hl
    go_enter Try.func16, Try.ntmps16
    go_wp2_with fail
    refine HL.out.mono ?_
    rintro e w1 ⟨rfl, rfl⟩
    go_wp2_with fail
    refine (round_any n w).mono ?_
    rintro e w1 ⟨rfl, rfl⟩
    go_wp2
    go_ret
    exact ⟨by rw [E.out]; rfl, rfl⟩
  · obtain ⟨q, hq⟩ : ∃ q, pagesI p n = q := ⟨_, rfl⟩
    obtain ⟨m, hm⟩ : ∃ m, IntKind.i64.wrap (q * p) = m := ⟨_, rfl⟩
    have E := Lib.hid (show cellI p n = max m 0 from by rw [cellI, if_pos hl, hq, hm])
    have hP := pages_any p n w hn
    rw [hq] at hP
    have HP := Lib.hid hP
    clear hP hl hq
    rcases Int.lt_or_le m 0 with g | g
    · rw [Int.max_eq_right (by omega)] at E
      go_enter Try.func16, Try.ntmps16
      go_wp2_with fail
      refine HL.out.mono ?_
      rintro e w1 ⟨rfl, rfl⟩
      go_wp2_with fail
      refine HP.out.mono ?_
      rintro e w1 ⟨rfl, rfl⟩
      go_wp2
      go_ret
      exact ⟨by rw [E.out]; rfl, rfl⟩
    · rw [Int.max_eq_left g] at E
      go_enter Try.func16, Try.ntmps16
      go_wp2_with fail
      refine HL.out.mono ?_
      rintro e w1 ⟨rfl, rfl⟩
      go_wp2_with fail
      refine HP.out.mono ?_
      rintro e w1 ⟨rfl, rfl⟩
      go_wp2
      go_ret
      exact ⟨by rw [E.out]; rfl, rfl⟩

theorem rnd_ge {k : Nat} {a n : Int} (h : Far k a) (hn : n ≤ 1099511627776) : n ≤ rnd k a n ∧ a ≤ rnd k a n ∧ rnd k a n ≤ 1099511627776 := by
  induction k generalizing a with
  | zero => cases h; exact ⟨hn, Int.le_refl _, Int.le_refl _⟩
  | succ k ih =>
    obtain ⟨h0, h1, h2, h3⟩ := h
    by_cases g : n ≤ a
    · rw [rnd_first g]; omega
    · by_cases g2 : n ≤ a + a / 2
      · rw [rnd_second g g2]; omega
      · rw [rnd_more g g2]
        have := ih h3
        omega

/-- Any number's size is 4 or more, and 2^40 at most. -/
theorem rnd_in {k : Nat} {a : Int} (n : Int) (h : Far k a) : a ≤ rnd k a n ∧ rnd k a n ≤ 1099511627776 := by
  induction k generalizing a with
  | zero => cases h; exact ⟨Int.le_refl _, Int.le_refl _⟩
  | succ k ih =>
    obtain ⟨h0, h1, h2, h3⟩ := h
    by_cases g : n ≤ a
    · rw [rnd_first g]; omega
    · by_cases g2 : n ≤ a + a / 2
      · rw [rnd_second g g2]; omega
      · rw [rnd_more g g2]
        have := ih h3
        omega

theorem rnd_tight {k : Nat} {a n : Int} (h : Far k a) (hn : n ≤ 1099511627776) (hp : (a = 4 ∧ 0 ≤ n) ∨ 3 * a < 4 * n) : rnd k a n < 2 * n + 7 := by
  induction k generalizing a with
  | zero => cases h; simp only [rnd]; omega
  | succ k ih =>
    obtain ⟨h0, h1, h2, h3⟩ := h
    by_cases g : n ≤ a
    · rw [rnd_first g]; omega
    · by_cases g2 : n ≤ a + a / 2
      · rw [rnd_second g g2]; omega
      · rw [rnd_more g g2]
        exact ih h3 (Or.inr (by omega))

theorem rnd_mono {k : Nat} {a m n : Int} (h : Far k a) (hmn : m ≤ n) : rnd k a m ≤ rnd k a n := by
  induction k generalizing a with
  | zero => exact Int.le_refl _
  | succ k ih =>
    have hb := rnd_in n h
    obtain ⟨h0, h1, h2, h3⟩ := h
    by_cases g : m ≤ a
    · rw [rnd_first g]; omega
    · by_cases g2 : m ≤ a + a / 2
      · rw [rnd_second g g2]
        by_cases g3 : n ≤ a + a / 2
        · rw [rnd_second (by omega) g3]; omega
        · rw [rnd_more (by omega) g3]
          have := rnd_in n h3
          omega
      · rw [rnd_more g g2, rnd_more (by omega) (by omega)]
        exact ih h3

theorem rnd_again {k : Nat} {a : Int} (n : Int) (h : Far k a) : rnd k a (rnd k a n) = rnd k a n := by
  induction k generalizing a with
  | zero => rfl
  | succ k ih =>
    obtain ⟨h0, h1, h2, h3⟩ := h
    by_cases g : n ≤ a
    · rw [rnd_first g, rnd_first (Int.le_refl a)]
    · by_cases g2 : n ≤ a + a / 2
      · rw [rnd_second g g2, rnd_second (by omega) (Int.le_refl _)]
      · rw [rnd_more g g2]
        have := rnd_in n h3
        rw [rnd_more (by omega) (by omega), ih h3]

theorem roundI_ge {n : Int} (hn : n ≤ 1099511627776) : n ≤ roundI n := (rnd_ge far_start hn).1
theorem roundI_in (n : Int) : 4 ≤ roundI n ∧ roundI n ≤ 1099511627776 := rnd_in n far_start
theorem roundI_tight {n : Int} (h0 : 0 ≤ n) (hn : n ≤ 1099511627776) : roundI n < 2 * n + 7 := rnd_tight far_start hn (Or.inl ⟨rfl, h0⟩)
theorem roundI_mono {m n : Int} (h : m ≤ n) : roundI m ≤ roundI n := rnd_mono far_start h
theorem roundI_again (n : Int) : roundI (roundI n) = roundI n := rnd_again n far_start

theorem pagesI_enough {p n : Int} (hp : 1 ≤ p) (hn : 1 ≤ n) : 1 ≤ pagesI p n ∧ pagesI p n ≤ n ∧ n ≤ pagesI p n * p ∧ (pagesI p n - 1) * p < n ∧ pagesI p n * p < n + p := by
  have e := Int.mul_ediv_add_emod (n - 1) p
  have m0 : 0 ≤ (n - 1) % p := Int.emod_nonneg _ (by omega)
  have m1 := Int.emod_lt_of_pos (n - 1) (show 0 < p by omega)
  have q0 : 0 ≤ (n - 1) / p := Int.ediv_nonneg (by omega) (by omega)
  have q1 : (n - 1) / p ≤ n - 1 := Int.ediv_le_self p (by omega)
  rw [show pagesI p n = (n - 1) / p + 1 from if_neg (by omega)]
  have x : ((n - 1) / p + 1) * p = p * ((n - 1) / p) + p := by rw [Int.add_mul, Int.mul_comm, Int.one_mul]
  have y : ((n - 1) / p + 1 - 1) * p = p * ((n - 1) / p) := by rw [Int.add_sub_cancel, Int.mul_comm]
  omega
end Go.Proofs.Ytpkppbfhadbenaa

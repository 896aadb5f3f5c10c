/- Contract of the fixed fact (awake); the walks of ClassRounds, ClassPages and ClassCells. -/
import Derived.Test.YtpkppbfhadbenaaClassC
namespace Go.Proofs.Ytpkppbfhadbenaa
open Go.RowKit

theorem retE {k : Nat} {xs : Array Value} {w : World} {x y : Value} (h : Calls Try.prog k xs w fun e w' => e = .returned x ∧ w = w') (e : x = y) :
    Calls Try.prog k xs w fun e w' => e = .returned y ∧ w = w' := by subst e; exact h

theorem awk1 (w : World) : Calls Try.prog 10 #[.int .i64 5] w fun e w' => e = .returned (.int .i64 6) ∧ w = w' := retE (round_any 5 w) (congrArg (Value.int .i64) (by decide))
theorem awk2 (w : World) : Calls Try.prog 10 #[.int .i64 13] w fun e w' => e = .returned (.int .i64 16) ∧ w = w' := retE (round_any 13 w) (congrArg (Value.int .i64) (by decide))
theorem awk3 (w : World) : Calls Try.prog 12 #[.int .i64 64, .int .i64 12] w fun e w' => e = .returned (.int .i64 5) ∧ w = w' := retE (cells_any 64 12 w (by decide)) (congrArg (Value.int .i64) (by decide))
theorem awk4 (w : World) : Calls Try.prog 15 #[.int .i64 32, .int .i64 17] w fun e w' => e = .returned (.bool true) ∧ w = w' := retE (large_any 32 17 w (by decide) (by decide)) (congrArg Value.bool (by decide))
theorem awk5 (w : World) : Calls Try.prog 15 #[.int .i64 32, .int .i64 16] w fun e w' => e = .returned (.bool false) ∧ w = w' := retE (large_any 32 16 w (by decide) (by decide)) (congrArg Value.bool (by decide))
theorem awk6 (w : World) : Calls Try.prog 13 #[.int .i64 32, .int .i64 65] w fun e w' => e = .returned (.int .i64 3) ∧ w = w' := retE (pages_any 32 65 w (by decide)) (congrArg (Value.int .i64) (by decide))
theorem awk7 (w : World) : Calls Try.prog 16 #[.int .i64 32, .int .i64 65] w fun e w' => e = .returned (.int .i64 96) ∧ w = w' := retE (cell_any 32 65 w (by decide) (by decide) (by decide)) (congrArg (Value.int .i64) (by decide))
theorem awk8 (w : World) : Calls Try.prog 11 #[.int .i64 7] w fun e w' => e = .returned (.int .i64 8) ∧ w = w' := retE (refRound_any 7 w) (congrArg (Value.int .i64) (by decide))

set_option maxHeartbeats 4000000 in
theorem awake4_any (w : World) :
    Calls Try.prog 9 #[] w fun e w' => e = .returned (.bool true) ∧ w = w' := by
  go_enter Try.func9, Try.ntmps9
  go_wp2_with fail
  refine (awk1 _).mono ?_
  rintro e w1 ⟨rfl, rfl⟩
  go_wp2_with fail
  refine (awk2 _).mono ?_
  rintro e w1 ⟨rfl, rfl⟩
  go_wp2_with fail
  refine (awk3 _).mono ?_
  rintro e w1 ⟨rfl, rfl⟩
  go_wp2_with fail
  refine (awk4 _).mono ?_
  rintro e w1 ⟨rfl, rfl⟩
  go_wp2_with fail
  refine (awk5 _).mono ?_
  rintro e w1 ⟨rfl, rfl⟩
  go_wp2_with fail
  refine (awk6 _).mono ?_
  rintro e w1 ⟨rfl, rfl⟩
  go_wp2_with fail
  refine (awk7 _).mono ?_
  rintro e w1 ⟨rfl, rfl⟩
  go_wp2_with fail
  refine (awk8 _).mono ?_
  rintro e w1 ⟨rfl, rfl⟩
  go_wp2
  go_ret
  exact ⟨rfl, rfl⟩

set_option maxHeartbeats 4000000 in
theorem classRounds_walk (n : Int) (w : World) :
    Calls Try.prog 3 #[.int .i64 n] w fun e w' => e = .returned (.bool true) ∧ w = w' := by
  go_enter Try.func3, Try.ntmps3
  go_wp2_with fail
  refine (awake4_any _).mono ?_
  rintro e w1 ⟨rfl, rfl⟩
  go_wp2_with fail
  refine (round_any n _).mono ?_
  rintro e w1 ⟨rfl, rfl⟩
  go_wp2_with fail
  refine (refRound_any n _).mono ?_
  rintro e w1 ⟨rfl, rfl⟩
  go_wp2
  go_ret
  exact ⟨rfl, rfl⟩

set_option maxHeartbeats 4000000 in
theorem classPages_walk (p n : Int) (w : World) (p0 : -9223372036854775808 ≤ p) (p1 : p ≤ 9223372036854775807) (n1 : n ≤ 9223372036854775807) :
    Calls Try.prog 4 #[.int .i64 p, .int .i64 n] w fun e w' => e = .returned (.bool true) ∧ w = w' := by
  have hL := large_any p n w p0 p1
  have hh := tdiv2 p p0 p1
  have hC := cells_any p n w p1
  have hR := refRound_any n w
  have rin := roundI_in n
  obtain ⟨r, hr⟩ : ∃ r, roundI n = r := ⟨_, rfl⟩
  obtain ⟨q, hq⟩ : ∃ q, p.tdiv 2 = q := ⟨_, rfl⟩
  rw [hq] at hh
  rw [show largeB p n = decide (q < r) from by rw [← hq, ← hr]; rfl] at hL
  rw [hr] at hR rin
  clear hr
  have HR := Lib.hid hR
  clear hR
  by_cases g : q < r
  all_goals
    first
    | rw [decide_eq_true g] at hL
    | rw [decide_eq_false g] at hL
    have HL := Lib.hid hL
    clear hL
    by_cases a0 : p < 1
    · rw [show cellsI p n = 0 from if_pos (Or.inl a0)] at hC
      have HC := Lib.hid hC
      clear hC
      go_enter Try.func4, Try.ntmps4
      go_wp2_with fail
      refine (awake4_any _).mono ?_
      rintro e w1 ⟨rfl, rfl⟩
      go_wp2_with fail
      refine HC.out.mono ?_
      rintro e w1 ⟨rfl, rfl⟩
      go_wp2_with fail
      refine (pages_any p n _ n1).mono ?_
      rintro e w1 ⟨rfl, rfl⟩
      go_wp2_with fail
      refine (refPages_any p n _ n1).mono ?_
      rintro e w1 ⟨rfl, rfl⟩
      go_wp2_with fail
      refine HL.out.mono ?_
      rintro e w1 ⟨rfl, rfl⟩
      go_wp2_with fail
      refine HR.out.mono ?_
      rintro e w1 ⟨rfl, rfl⟩
      go_wp2
      go_ret
      first
      | exact ⟨rfl, rfl⟩
      | exact ⟨by show Ending.returned (.bool (!decide (q < r))) = _; rw [decide_eq_false (by omega)]; rfl, rfl⟩
    · by_cases a1 : n < 1
      · rw [show cellsI p n = 0 from if_pos (Or.inr a1)] at hC
        have HC := Lib.hid hC
        clear hC
        go_enter Try.func4, Try.ntmps4
        go_wp2_with fail
        refine (awake4_any _).mono ?_
        rintro e w1 ⟨rfl, rfl⟩
        go_wp2_with fail
        refine HC.out.mono ?_
        rintro e w1 ⟨rfl, rfl⟩
        go_wp2_with fail
        refine (pages_any p n _ n1).mono ?_
        rintro e w1 ⟨rfl, rfl⟩
        go_wp2_with fail
        refine (refPages_any p n _ n1).mono ?_
        rintro e w1 ⟨rfl, rfl⟩
        go_wp2_with fail
        refine HL.out.mono ?_
        rintro e w1 ⟨rfl, rfl⟩
        go_wp2_with fail
        refine HR.out.mono ?_
        rintro e w1 ⟨rfl, rfl⟩
        go_wp2
        go_ret
        first
        | exact ⟨rfl, rfl⟩
        | exact ⟨by show Ending.returned (.bool (!decide (q < r))) = _; rw [decide_eq_false (by omega)]; rfl, rfl⟩
      · obtain ⟨c, hc⟩ : ∃ c, p / n = c := ⟨_, rfl⟩
        rw [show cellsI p n = c from by rw [← hc]; exact if_neg (by omega)] at hC
        have hd : p.tdiv n = c := by rw [← hc]; exact tdiv_of (by omega)
        have c0 : 0 ≤ c := by rw [← hc]; exact Int.ediv_nonneg (by omega) (by omega)
        have c1 : c ≤ p := by rw [← hc]; exact Int.ediv_le_self n (by omega)
        clear hc
        have HC := Lib.hid hC
        clear hC
        go_enter Try.func4, Try.ntmps4
        go_wp2_with fail
        refine (awake4_any _).mono ?_
        rintro e w1 ⟨rfl, rfl⟩
        go_wp2_with fail
        refine HC.out.mono ?_
        rintro e w1 ⟨rfl, rfl⟩
        go_wp2_with fail
        refine (pages_any p n _ n1).mono ?_
        rintro e w1 ⟨rfl, rfl⟩
        go_wp2_with fail
        refine (refPages_any p n _ n1).mono ?_
        rintro e w1 ⟨rfl, rfl⟩
        go_wp2_with fail
        refine HL.out.mono ?_
        rintro e w1 ⟨rfl, rfl⟩
        go_wp2_with fail
        refine HR.out.mono ?_
        rintro e w1 ⟨rfl, rfl⟩
        go_wp2
        go_ret
        first
        | exact ⟨rfl, rfl⟩
        | exact ⟨by show Ending.returned (.bool (!decide (q < r))) = _; rw [decide_eq_false (by omega)]; rfl, rfl⟩

theorem cellI_large {p n m : Int} (h : p / 2 < roundI n) (p0 : 0 ≤ p) (hm : pagesI p n * p = m) (m0 : 0 ≤ m) (m1 : m ≤ 9223372036854775807) : cellI p n = m := by
  have hl : largeB p n = true := decide_eq_true (by rw [tdiv_of p0]; exact h)
  rw [cellI, if_pos hl, hm, IntKind.wrap_i64]
  omega

theorem cellI_small {p n : Int} (h : ¬ p / 2 < roundI n) (p0 : 0 ≤ p) : cellI p n = roundI n := by
  have hl : largeB p n = false := decide_eq_false (by rw [tdiv_of p0]; exact h)
  rw [cellI, if_neg (by rw [hl]; exact Bool.false_ne_true)]

theorem pages_prod {p n : Int} (p0 : 0 ≤ p) (p1 : p ≤ 65536) (n1 : n ≤ 4294967296) : 0 ≤ pagesI p n ∧ pagesI p n ≤ 4294967296 ∧ 0 ≤ pagesI p n * p ∧ pagesI p n * p ≤ 4295032832 := by
  by_cases h : p < 1 ∨ n < 1
  · rw [show pagesI p n = 0 from if_pos h]
    omega
  · have := pagesI_enough (p := p) (n := n) (by omega) (by omega)
    omega

set_option maxHeartbeats 4000000 in
theorem classCells_walk (p n : Int) (p0 : 0 ≤ p) (p1 : p ≤ 65535) (n0 : 0 ≤ n) (n1 : n ≤ 4294967295) (w : World) :
    Calls Try.prog 5 #[.int .u16 p, .int .u32 n] w fun e w' => e = .returned (.bool true) ∧ w = w' := by
  have hR := refRound_any n w
  have rin := roundI_in n
  have rge := roundI_ge (n := n) (by omega)
  have hP := refPages_any p n w (by omega)
  have hX := cell_any p n w (by omega) (by omega) (by omega)
  have pp := pages_prod p0 (by omega : p ≤ 65536) (by omega : n ≤ 4294967296)
  have cl := fun h m => cellI_large (p := p) (n := n) (m := m) h p0
  have cs := fun h => cellI_small (p := p) (n := n) h p0
  obtain ⟨r, hr⟩ : ∃ r, roundI n = r := ⟨_, rfl⟩
  obtain ⟨k, hk⟩ : ∃ k, pagesI p n = k := ⟨_, rfl⟩
  obtain ⟨m, hm⟩ : ∃ m, k * p = m := ⟨_, rfl⟩
  have hq : p.tdiv 2 = p / 2 := tdiv_of p0
  rw [hr] at hR rin rge cl cs
  rw [hk] at hP pp cl
  rw [hm] at pp cl
  clear hr hk
  have HR := Lib.hid hR
  have HP := Lib.hid hP
  clear hR hP
  by_cases g : p / 2 < r
  · rw [cl g m rfl (by omega) (by omega)] at hX
    have HX := Lib.hid hX
    clear hX cl cs
    go_enter Try.func5, Try.ntmps5
    go_wp2_with fail
    refine HX.out.mono ?_
    rintro e w1 ⟨rfl, rfl⟩
    go_wp2_with fail
    refine HR.out.mono ?_
    rintro e w1 ⟨rfl, rfl⟩
    go_wp2_with fail
    refine (awake4_any _).mono ?_
    rintro e w1 ⟨rfl, rfl⟩
    go_wp2_with fail
    refine HP.out.mono ?_
    rintro e w1 ⟨rfl, rfl⟩
    go_wp2
    go_ret
    exact ⟨rfl, rfl⟩
  · rw [cs g] at hX
    have HX := Lib.hid hX
    clear hX cl cs
    go_enter Try.func5, Try.ntmps5
    go_wp2_with fail
    refine HX.out.mono ?_
    rintro e w1 ⟨rfl, rfl⟩
    go_wp2_with fail
    refine HR.out.mono ?_
    rintro e w1 ⟨rfl, rfl⟩
    go_wp2_with fail
    refine (awake4_any _).mono ?_
    rintro e w1 ⟨rfl, rfl⟩
    go_wp2_with fail
    refine HR.out.mono ?_
    rintro e w1 ⟨rfl, rfl⟩
    go_wp2
    go_ret
    exact ⟨rfl, rfl⟩
end Go.Proofs.Ytpkppbfhadbenaa

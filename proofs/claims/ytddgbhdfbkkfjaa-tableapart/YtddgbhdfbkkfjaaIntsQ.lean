/- The document's Ints: two slices of own memory that hold the same. -/
import Derived.Test.YtddgbhdfbkkfjaaQuA
import Derived.Deep.QuietTactic
import Derived.BigQuiet
import Derived.BigRegion
import Derived.IntWalk
namespace Go.Proofs.Ytddgbhdfbkkfjaa
open Go.RowKit

set_option maxHeartbeats 1000000 in
/-- Two slices with the same numbers. -/
theorem ints_qu (A1 A2 : Option Addr) (n c1 c2 : Nat) (xs : List Int) (w : World) (h1 : Qu w A1 n c1 xs) (h2 : Qu w A2 n c2 xs) (few : n ≤ 1048576) :
    Calls Try.prog 10 #[.slice A1 n c1, .slice A2 n c2] w fun e w' => e = .returned (.bool true) ∧ Below w.heap.size w w' := by
  have H1 := Lib.hid h1
  have H2 := Lib.hid h2
  have HL := Lib.hid h1.len
  clear h1 h2
  go_enter Try.func10, Try.ntmps10
  go_wp2_with fail
  go_loopw [5] (fun s wr => ∃ j m : Nat, j ≤ n ∧ s = .int .i64 j ∧ wr = w.drewN m) (fun s _ => n - (intOf s).toNat)
  case atStart => exact ⟨0, 0, Nat.zero_le _, rfl, rfl⟩
  case round =>
    obtain ⟨j, m, hj, rfl, rfl⟩ := hrel
    by_cases hlt : j < n
    · have hy : xs[j]? = some (xs[j]'(by have := HL.out; omega)) := List.getElem?_eq_getElem _
      generalize xs[j]'(by have := HL.out; omega) = y at hy
      obtain ⟨g1, o1, rfl, _, d1, _⟩ := H1.out.at_ (by omega)
      obtain ⟨g2, o2, rfl, _, d2, _⟩ := H2.out.at_ (by omega)
      have x1 := d1 j y hy
      have x2 := d2 j y hy
      have j0 : (0 : Int) ≤ (j : Int) := by omega
      have j1 : (j : Int) < (n : Int) := by omega
      clear d1 d2 hy
      go_wp2_with fail
      go_quiet (fail)
      go_wp2
      go_roundw
      case rel => exact ⟨j + 1, _, by omega, by go_num, rfl⟩
      case measure => simp [intOf]; omega
    · obtain rfl : j = n := by omega
      go_wp2
      go_ret
      exact ⟨rfl, below_drewN _ _⟩
end Go.Proofs.Ytddgbhdfbkkfjaa

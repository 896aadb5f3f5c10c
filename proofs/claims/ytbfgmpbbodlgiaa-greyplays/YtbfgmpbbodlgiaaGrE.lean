/- GreyOrder: what was pushed is popped the other way round. -/
import Derived.Test.YtbfgmpbbodlgiaaGrD
import Derived.Deep.DeepCutAuto
import Derived.Deep.CutBlock
namespace Go.Proofs.Ytbfgmpbbodlgiaa
open Go.RowKit

theorem gr_take {α : Type} {cs : List α} {j : Nat} {c : α} (h : cs[j]? = some c) : cs.take (j + 1) = cs.take j ++ [c] := by
  rw [List.take_add_one, h]; rfl

set_option maxHeartbeats 4000000 in
theorem greyOrder_walk (A : Option Addr) (n c : Nat) (xs : List Int) (w : World) (rd : Rd .i64 w A n xs) (hn : n ≤ c) (hc : c ≤ maxLen) :
    Calls Try.prog 5 #[.slice A n c] w fun e w' => e = .returned (.bool true) ∧ Below w.heap.size w w' := by
  have nm : n ≤ 9223372036854775807 := by simp only [maxLen] at hc; omega
  have RD := Lib.hid rd
  have HL := Lib.hid rd.1
  clear rd hc hn
  obtain ⟨m, hm⟩ : ∃ m : Nat, m = min n 100 := ⟨_, rfl⟩
  have mn : m ≤ n := by omega
  have m1 : m ≤ 100 := by omega
  go_enter Try.func5, Try.ntmps5
  go_wp2_with fail
  refine (gz_new (Z := noZ) 100 (Below.refl _ w) noZ_low).mono ?_
  rintro e w1 ⟨b, rfl, s, _⟩
  rw [gr_cut (by decide) (by decide)] at s
  have HS : Hid (Gz w w1 noZ b 100 false (xs.take 0)) := Lib.hid s
  clear s
  unfold grP
  go_upto_if 13 with (fail)
  go_cut [4] (fun s wc => s = .int .i64 m ∧ w1 = wc)
  case first =>
    by_cases h100 : n ≤ 100
    · obtain rfl : m = n := by omega
      go_wp2
      go_meet
      case rel => exact ⟨rfl, rfl⟩
    · obtain rfl : m = 100 := by omega
      go_wp2
      go_meet
      case rel => exact ⟨rfl, rfl⟩
  case rest =>
    obtain ⟨rfl, rfl⟩ := hcut
    clear hm
    go_wp2_with fail
    go_loopw [5] (fun s wr => ∃ i : Nat, i ≤ m ∧ s = .int .i64 i ∧ Hid (Gz w wr noZ b 100 false (xs.take i))) (fun s _ => m - (intOf s).toNat)
    case atStart => exact ⟨0, Nat.zero_le _, rfl, HS⟩
    case round =>
      obtain ⟨i, hi, rfl, HB⟩ := hrel
      clear HS
      by_cases hlt : i < m
      · obtain ⟨ad, x, rfl, hx, hcell⟩ := RD.out.at_ HB.out.bel (show i < n by omega)
        have HX := Lib.hid hx
        have HN := Lib.hid (show ((xs.take i).length : Int) < 100 from by rw [List.length_take, HL.out]; omega)
        clear hx
        go_wp2_with fail
        refine (gz_push_yes HB.out HN.out x).mono ?_
        rintro e w2 ⟨rfl, s, _⟩
        rw [← gr_take HX.out] at s
        have HS := Lib.hid s
        clear s hcell
        go_wp2
        go_roundw
        case rel => exact ⟨i + 1, by omega, by go_num, HS⟩
        case measure => simp [intOf]; omega
      · obtain rfl : m = i := by omega
        have mw : IntKind.i64.wrap ((m : Int) - 1) = (m : Int) - 1 := IntWalk.i64_in _ (by omega)
        generalize wr = wo at *
        clear hlt hi
        go_wp2_with fail
        go_loopw [6] (fun s wr => ∃ j : Nat, j ≤ m ∧ s = .int .i64 ((j : Int) - 1) ∧ Hid (Gz w wr noZ b 100 false (xs.take j))) (fun s _ => (intOf s + 1).toNat)
        case atStart => exact ⟨m, Nat.le_refl _, rfl, HB⟩
        case round =>
          clear HB
          obtain ⟨j, hj, rfl, HB⟩ := hrel
          cases j with
          | zero =>
            have HB : Hid (Gz w wr noZ b 100 false []) := HB
            go_wp2_with fail
            refine (grAwake_walk wr).mono ?_
            rintro e w3 ⟨rfl, bb⟩
            have HE := Lib.hid (HB.out.keep bb)
            clear bb
            go_wp2_with fail
            refine (gz_lost HE.out).mono ?_
            rintro e w4 ⟨rfl, rfl⟩
            go_wp2_with fail
            refine (gz_len HE.out).mono ?_
            rintro e w4 ⟨rfl, rfl⟩
            go_wp2
            go_ret
            exact ⟨rfl, HE.out.bel⟩
          | succ j =>
            have hx := List.getElem?_eq_getElem (l := xs) (i := j) (by have := HL.out; omega)
            generalize xs[j]'(by have := HL.out; omega) = x at hx
            have HX := Lib.hid hx
            have HE := Lib.hid (show Gz w wr noZ b 100 false (xs.take j ++ [x]) from by rw [← gr_take hx]; exact HB.out)
            have ej : ((j + 1 : Nat) : Int) - 1 = (j : Int) := by omega
            rw [ej]
            clear hx HB ej
            go_wp2_with fail
            refine (gz_pop_yes HE.out).mono ?_
            rintro e w2 ⟨rfl, s, _⟩
            have HS := Lib.hid s
            obtain ⟨ad, x2, rfl, hx, hcell⟩ := RD.out.at_ HS.out.bel (show j < n by omega)
            obtain rfl : x2 = x := by
              have h3 := HX.out
              rw [hx] at h3
              cases h3
              rfl
            clear s HE hx
            have jw : IntKind.i64.wrap ((j : Int) - 1) = (j : Int) - 1 := IntWalk.i64_in _ (by omega)
            go_wp2
            go_roundw
            case rel => exact ⟨j, by omega, rfl, HS⟩
            case measure => simp [intOf]
end Go.Proofs.Ytbfgmpbbodlgiaa

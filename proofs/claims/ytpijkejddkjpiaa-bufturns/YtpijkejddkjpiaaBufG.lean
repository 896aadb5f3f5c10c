/- BufTurns: one in, one out, again and again. -/
import Derived.Test.YtpijkejddkjpiaaBufE
namespace Go.Proofs.Ytpijkejddkjpiaa
open Go.RowKit

def dnI (n : Nat) : List Int := (List.range n).map fun (k : Nat) => -1 - Int.ofNat k
theorem dnI_len (n : Nat) : (dnI n).length = n := by simp [dnI]
theorem dnI_succ (n : Nat) : dnI (n + 1) = dnI n ++ [-1 - (n : Int)] := by simp [dnI, List.range_succ]
theorem dnI_at {n i : Nat} (h : i < n) : (dnI n)[i]? = some (-1 - (i : Int)) := by simp [dnI, h]

section
variable {k i n : Nat} {xs : List Int} {x y : Int}
/-- What stands there, turn by turn. -/
theorem turn_put (h : xs[i]? = some x) : ((dnI k ++ xs).drop i).take k ++ [x] = ((dnI k ++ xs).drop i).take (k + 1) := by
  refine (bf_take ?_).symm
  rw [List.getElem?_drop, List.getElem?_append_right (by rw [dnI_len]; omega), dnI_len, show i + k - k = i by omega]
  exact h
theorem turn_take (h : (dnI k ++ xs)[i]? = some y) : ((dnI k ++ xs).drop i).take (k + 1) = y :: ((dnI k ++ xs).drop (i + 1)).take k := by
  rw [bf_drop h, List.take_succ_cons]
theorem turn_len (hl : xs.length = n) (hi : i ≤ n) : (((dnI k ++ xs).drop i).take k).length = k := by
  rw [List.length_take, List.length_drop, List.length_append, dnI_len, hl]; omega
theorem turn_low (hi : i < k) : (dnI k ++ xs)[i]? = some (-1 - (i : Int)) := by
  rw [List.getElem?_append_left (by rw [dnI_len]; exact hi)]; exact dnI_at hi
theorem turn_high {j : Nat} (hj : i = j + k) (h : xs[j]? = some y) : (dnI k ++ xs)[i]? = some y := by
  rw [List.getElem?_append_right (by rw [dnI_len]; omega), dnI_len, show i - k = j by omega]; exact h
end

set_option maxHeartbeats 4000000 in
theorem bufTurns_walk (x : Int) (x0 : 0 ≤ x) (A : Option Addr) (n c : Nat) (xs : List Int) (w : World) (rd : Rd .i64 w A n xs) (hn : n ≤ c) (hc : c ≤ maxLen) :
    Calls Try.prog 7 #[.int .u8 x, .slice A n c] w fun e w' => e = .returned (.bool true) ∧ Below w.heap.size w w' := by
  obtain ⟨k, hG⟩ : ∃ k : Nat, x % 10 = k := ⟨(x % 10).toNat, by omega⟩
  have hG2 : x.tmod 10 = k := by rw [Int.tmod_eq_emod_of_nonneg x0]; exact hG
  have g1 : k < 10 := by omega
  have gw : IntKind.u8.wrap (k : Int) = k := by rw [IntKind.wrap_u8]; omega
  have gv : IntKind.i64.wrap (k : Int) = k := IntWalk.i64_in _ (by omega)
  have gz : IntKind.i64.wrap ((k : Int) + 1) = k + 1 := IntWalk.i64_in _ (by omega)
  have nm : n ≤ 9223372036854775807 := by simp only [maxLen] at hc; omega
  have RD := Lib.hid rd
  have HL := Lib.hid rd.1
  clear rd hc hn hG x0
  go_enter Try.func7, Try.ntmps7
  go_wp2_with fail
  refine (bs_new ((k : Int) + 1) (Below.refl _ w)).mono ?_
  rintro e w1 ⟨b, rfl, s⟩
  rw [cutI_id9 (by omega) (by omega)] at s
  have HS : Hid (Bs w w1 b (k + 1) (dnI 0)) := Lib.hid s
  clear s hG2 gw gv gz
  unfold bfP
  go_wp2_with fail
  go_loopw [7] (fun s wr => ∃ i : Nat, i ≤ k ∧ s = .int .i64 i ∧ Hid (Bs w wr b (k + 1) (dnI i))) (fun s _ => k - (intOf s).toNat)
  case atStart => exact ⟨0, Nat.zero_le _, rfl, HS⟩
  case round =>
    obtain ⟨i, hi, rfl, HB⟩ := hrel
    clear HS
    by_cases hlt : i < k
    · have HN := Lib.hid (show ((dnI i).length : Int) < (k : Int) + 1 from by rw [dnI_len]; omega)
      have hm : IntKind.i64.wrap (-1 - (i : Int)) = -1 - (i : Int) := IntWalk.i64_in _ (by omega)
      go_wp2_with fail
      refine (bs_put_yes HB.out HN.out (-1 - (i : Int))).mono ?_
      rintro e w2 ⟨rfl, s⟩
      rw [← dnI_succ] at s
      have HS := Lib.hid s
      clear s HN hm
      go_wp2
      go_roundw
      case rel => exact ⟨i + 1, by omega, by go_num, HS⟩
      case measure => simp [intOf]; omega
    · obtain rfl : i = k := by omega
      have HD := Lib.hid (show Bs w wr b (i + 1) (((dnI i ++ xs).drop 0).take i) from by
        have e : ((dnI i ++ xs).drop 0).take i = dnI i := by rw [List.drop_zero, List.take_append_of_le_length (by rw [dnI_len]; exact Nat.le_refl _), List.take_of_length_le (by rw [dnI_len]; exact Nat.le_refl _)]
        rw [e]; exact HB.out)
      generalize wr = wo at *
      generalize i = k at *
      clear HB hlt hi
      go_wp2_with fail
      go_loopw [8] (fun s wr => ∃ i : Nat, i ≤ n ∧ i ≤ 100 ∧ s = .int .i64 i ∧ Hid (Bs w wr b (k + 1) (((dnI k ++ xs).drop i).take k))) (fun s _ => 100 - (intOf s).toNat)
      case atStart => exact ⟨0, Nat.zero_le _, by omega, rfl, HD⟩
      case round =>
        obtain ⟨i, hi, hk, rfl, HB⟩ := hrel
        clear HD
        by_cases l1 : i < n
        · by_cases l2 : i < 100
          · obtain ⟨ad, x, rfl, hx, hcell⟩ := RD.out.at_ HB.out.bel l1
            have HN := Lib.hid (show ((((dnI k ++ xs).drop i).take k).length : Int) < (k : Int) + 1 from by rw [turn_len HL.out hi]; omega)
            have hm : IntKind.i64.wrap (-1 - (i : Int)) = -1 - (i : Int) := IntWalk.i64_in _ (by omega)
            have HP := Lib.hid (turn_put (k := k) hx)
            have HL2 := Lib.hid (turn_len (k := k) HL.out (show i + 1 ≤ n by omega))
            clear hx
            by_cases l3 : i < k
            · have HT := Lib.hid (turn_take (turn_low (xs := xs) l3))
              go_wp2_with fail
              refine (bs_put_yes HB.out HN.out x).mono ?_
              rintro e w2 ⟨rfl, s⟩
              rw [HP.out, HT.out] at s
              have HS := Lib.hid s
              clear s hcell HN HP HT HB
              go_wp2_with fail
              refine (bs_take_yes HS.out).mono ?_
              rintro e w3 ⟨rfl, s⟩
              have HS := Lib.hid s
              clear s hm
              go_wp2_with fail
              refine (bs_len HS.out).mono ?_
              rintro e w4 ⟨rfl, rfl⟩
              rw [HL2.out]
              go_wp2
              go_roundw
              case rel => exact ⟨i + 1, by omega, by omega, by go_num, HS⟩
              case measure => simp [intOf]; omega
            · obtain ⟨j, hj⟩ : ∃ j, i = j + k := ⟨i - k, by omega⟩
              obtain ⟨ad2, y, e2, hy, hcy⟩ := RD.out.at_ HB.out.bel (show j < n by omega)
              cases e2
              have HT := Lib.hid (turn_take (turn_high (k := k) hj hy))
              have hw : IntKind.i64.wrap ((i : Int) - (k : Int)) = (j : Int) := by rw [IntWalk.i64_in _ (by omega)]; omega
              have HY := Lib.hid hy
              have jn : j < n := by omega
              clear hy hcy hj
              go_wp2_with fail
              refine (bs_put_yes HB.out HN.out x).mono ?_
              rintro e w2 ⟨rfl, s⟩
              rw [HP.out, HT.out] at s
              have HS := Lib.hid s
              obtain ⟨ad3, y3, e3, hy3, hcy⟩ := RD.out.at_ HS.out.bel jn
              cases e3
              obtain rfl : y3 = y := by
                have h3 := HY.out
                rw [hy3] at h3
                cases h3
                rfl
              clear s hcell HN HP HT HB hy3
              go_wp2_with fail
              refine (bs_take_yes HS.out).mono ?_
              rintro e w3 ⟨rfl, s⟩
              have HS := Lib.hid s
              clear s hm hw hcy
              go_wp2_with fail
              refine (bs_len HS.out).mono ?_
              rintro e w4 ⟨rfl, rfl⟩
              rw [HL2.out]
              go_wp2
              go_roundw
              case rel => exact ⟨i + 1, by omega, by omega, by go_num, HS⟩
              case measure => simp [intOf]; omega
          · obtain rfl : i = 100 := by omega
            go_wp2_with fail
            refine (bfAwake_walk wr).mono ?_
            rintro e w3 ⟨rfl, bb⟩
            have HE := Lib.hid (HB.out.keep bb)
            clear bb
            go_wp2
            go_ret
            exact ⟨rfl, HE.out.bel⟩
        · obtain rfl : i = n := by omega
          go_wp2_with fail
          refine (bfAwake_walk wr).mono ?_
          rintro e w3 ⟨rfl, bb⟩
          have HE := Lib.hid (HB.out.keep bb)
          clear bb
          go_wp2
          go_ret
          exact ⟨rfl, HE.out.bel⟩
end Go.Proofs.Ytpijkejddkjpiaa

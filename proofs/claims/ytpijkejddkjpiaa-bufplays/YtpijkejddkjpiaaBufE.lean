/- BufOrder: what was put in comes out in the same order. -/
import Derived.Test.YtpijkejddkjpiaaBufD
import Derived.Test.YtpijkejddkjpiaaLists
namespace Go.Proofs.Ytpijkejddkjpiaa
open Go.RowKit

theorem bf_take {α : Type} {cs : List α} {j : Nat} {c : α} (h : cs[j]? = some c) : cs.take (j + 1) = cs.take j ++ [c] := by
  rw [List.take_add_one, h]; rfl
theorem bf_drop {α : Type} {cs : List α} {j : Nat} {c : α} (h : cs[j]? = some c) : cs.drop j = c :: cs.drop (j + 1) := by
  obtain ⟨hl, rfl⟩ := List.getElem?_eq_some_iff.1 h
  exact List.drop_eq_getElem_cons hl

theorem cutI_id9 {m : Int} (h0 : 0 ≤ m) (h1 : m ≤ 1048576) : cutI m 0 1048576 = m := by rw [cutI, if_neg (by omega), if_neg (by omega)]

set_option maxHeartbeats 4000000 in
theorem bufOrder_walk (A : Option Addr) (n c : Nat) (xs : List Int) (w : World) (rd : Rd .i64 w A n xs) (hn : n ≤ c) (hc : c ≤ maxLen) :
    Calls Try.prog 5 #[.slice A n c] w fun e w' => e = .returned (.bool true) ∧ Below w.heap.size w w' := by
  have nm : n ≤ 9223372036854775807 := by simp only [maxLen] at hc; omega
  have RD := Lib.hid rd
  have HL := Lib.hid rd.1
  clear rd hc hn
  go_enter Try.func5, Try.ntmps5
  go_wp2_with fail
  refine (bs_new 100 (Below.refl _ w)).mono ?_
  rintro e w1 ⟨b, rfl, s⟩
  rw [cutI_id9 (by decide) (by decide)] at s
  have HS : Hid (Bs w w1 b 100 (xs.take 0)) := Lib.hid s
  clear s
  unfold bfP
  go_wp2_with fail
  go_loopw [4] (fun s wr => ∃ i : Nat, i ≤ n ∧ i ≤ 100 ∧ s = .int .i64 i ∧ Hid (Bs w wr b 100 (xs.take i))) (fun s _ => 100 - (intOf s).toNat)
  case atStart => exact ⟨0, Nat.zero_le _, by omega, rfl, HS⟩
  case round =>
    obtain ⟨i, hi, hk, rfl, HB⟩ := hrel
    clear HS
    by_cases hlt : i < n ∧ i < 100
    · obtain ⟨l1, l2⟩ := hlt
      obtain ⟨ad, x, rfl, hx, hcell⟩ := RD.out.at_ HB.out.bel l1
      have HX := Lib.hid hx
      have hl : (xs.take i).length = i := by rw [List.length_take, HL.out]; omega
      have HN := Lib.hid (show ((xs.take i).length : Int) < 100 from by rw [hl]; omega)
      clear hx hl
      go_wp2_with fail
      refine (bs_put_yes HB.out HN.out x).mono ?_
      rintro e w2 ⟨rfl, s⟩
      rw [← bf_take HX.out] at s
      have HS := Lib.hid s
      clear s hcell
      go_wp2
      go_roundw
      case rel => exact ⟨i + 1, by omega, by omega, by go_num, HS⟩
      case measure => simp [intOf]; omega
    · have HD := Lib.hid (show Bs w wr b 100 ((xs.take i).drop 0) from HB.out)
      have hl := Lib.hid (show (xs.take i).length = i from by rw [List.length_take, HL.out]; omega)
      generalize wr = wo at *
      clear HB
      rcases (show i = n ∨ (i = 100 ∧ 100 < n) from by omega) with hs | ⟨hs, hs2⟩
      · subst hs
        go_wp2_with fail
        go_loopw [5] (fun s wr => ∃ j : Nat, j ≤ i ∧ s = .int .i64 j ∧ Hid (Bs w wr b 100 ((xs.take i).drop j))) (fun s _ => i - (intOf s).toNat)
        case atStart => exact ⟨0, Nat.zero_le _, rfl, HD⟩
        case round =>
          obtain ⟨j, hj, rfl, HB⟩ := hrel
          by_cases l1 : j < i
          · obtain ⟨ad, x, rfl, hx, hcell⟩ := RD.out.at_ HB.out.bel (show j < i by omega)
            have hx2 : (xs.take i)[j]? = some x := by rw [List.getElem?_take_of_lt l1]; exact hx
            have HB2 := Lib.hid (show Bs w wr b 100 (x :: (xs.take i).drop (j + 1)) from by rw [← bf_drop hx2]; exact HB.out)
            have HR := Lib.hid RD.out
            clear hx hx2
            go_wp2_with fail
            refine (bs_take_yes HB2.out).mono ?_
            rintro e w2 ⟨rfl, s⟩
            have HS := Lib.hid s
            obtain ⟨ad2, x2, e2, hx, hcell2⟩ := RD.out.at_ HS.out.bel (show j < i by omega)
            cases e2
            have e3 : x2 = x := by
              have h3 := (RD.out.at_ HB.out.bel (show j < i by omega))
              obtain ⟨ad4, x4, e4, hx4, hc4⟩ := h3
              cases e4
              rw [hx] at hx4
              cases hx4
              rw [hcell] at hc4
              cases hc4
              rfl
            subst e3
            clear s hcell hx HB HB2
            go_wp2
            go_roundw
            case rel => exact ⟨j + 1, by omega, by go_num, HS⟩
            case measure => simp [intOf]; omega
          · obtain rfl : j = i := by omega
            have HE := Lib.hid (show Bs w wr b 100 [] from by have := HB.out; rw [List.drop_eq_nil_of_le (by rw [hl.out]; exact Nat.le_refl _)] at this; exact this)
            clear HB
            go_wp2_with fail
            refine (bfAwake_walk wr).mono ?_
            rintro e w3 ⟨rfl, bb⟩
            have HE := Lib.hid (HE.out.keep bb)
            clear bb
            go_wp2_with fail
            refine (bs_len HE.out).mono ?_
            rintro e w4 ⟨rfl, rfl⟩
            go_wp2
            go_ret
            exact ⟨rfl, HE.out.bel⟩
      · subst hs
        go_wp2_with fail
        go_loopw [5] (fun s wr => ∃ j : Nat, j ≤ 100 ∧ s = .int .i64 j ∧ Hid (Bs w wr b 100 ((xs.take 100).drop j))) (fun s _ => 100 - (intOf s).toNat)
        case atStart => exact ⟨0, Nat.zero_le _, rfl, HD⟩
        case round =>
          obtain ⟨j, hj, rfl, HB⟩ := hrel
          by_cases l1 : j < 100
          · obtain ⟨ad, x, rfl, hx, hcell⟩ := RD.out.at_ HB.out.bel (show j < n by omega)
            have hx2 : (xs.take 100)[j]? = some x := by rw [List.getElem?_take_of_lt l1]; exact hx
            have HB2 := Lib.hid (show Bs w wr b 100 (x :: (xs.take 100).drop (j + 1)) from by rw [← bf_drop hx2]; exact HB.out)
            have HR := Lib.hid RD.out
            clear hx hx2
            go_wp2_with fail
            refine (bs_take_yes HB2.out).mono ?_
            rintro e w2 ⟨rfl, s⟩
            have HS := Lib.hid s
            obtain ⟨ad2, x2, e2, hx, hcell2⟩ := RD.out.at_ HS.out.bel (show j < n by omega)
            cases e2
            have e3 : x2 = x := by
              have h3 := (RD.out.at_ HB.out.bel (show j < n by omega))
              obtain ⟨ad4, x4, e4, hx4, hc4⟩ := h3
              cases e4
              rw [hx] at hx4
              cases hx4
              rw [hcell] at hc4
              cases hc4
              rfl
            subst e3
            clear s hcell hx HB HB2
            go_wp2
            go_roundw
            case rel => exact ⟨j + 1, by omega, by go_num, HS⟩
            case measure => simp [intOf]; omega
          · obtain rfl : j = 100 := by omega
            have HE := Lib.hid (show Bs w wr b 100 [] from by have := HB.out; rw [List.drop_eq_nil_of_le (by rw [hl.out]; exact Nat.le_refl _)] at this; exact this)
            clear HB
            go_wp2_with fail
            refine (bfAwake_walk wr).mono ?_
            rintro e w3 ⟨rfl, bb⟩
            have HE := Lib.hid (HE.out.keep bb)
            clear bb
            go_wp2_with fail
            refine (bs_len HE.out).mono ?_
            rintro e w4 ⟨rfl, rfl⟩
            go_wp2
            go_ret
            exact ⟨rfl, HE.out.bel⟩
end Go.Proofs.Ytpijkejddkjpiaa

/- GreyLost, GreyOrder. -/
import Derived.Test.YtbfgmpbbodlgiaaGrC
namespace Go.Proofs.Ytbfgmpbbodlgiaa
open Go.RowKit

def upI (n : Nat) : List Int := (List.range n).map Int.ofNat
theorem upI_len (n : Nat) : (upI n).length = n := by simp [upI]
theorem upI_succ (n : Nat) : upI (n + 1) = upI n ++ [(n : Int)] := by simp [upI, List.range_succ]

theorem gr_cut {m : Int} (h0 : 0 ≤ m) (h1 : m ≤ 1048576) : cutI m 0 1048576 = m := by rw [cutI, if_neg (by omega), if_neg (by omega)]

/-- What stands there behind i pushes of 0, 1, ..: the first ones, as many as there is room for. -/
def LostR (w wr : World) (b G i : Nat) : Prop := Gz w wr noZ b G (decide (G < i)) (upI (min i G))

set_option maxHeartbeats 4000000 in
theorem greyLost_walk (x y : Int) (x0 : 0 ≤ x) (y0 : 0 ≤ y) (w : World) :
    Calls Try.prog 6 #[.int .u8 x, .int .u8 y] w fun e w' => e = .returned (.bool true) ∧ Below w.heap.size w w' := by
  obtain ⟨G, hG⟩ : ∃ G : Nat, x % 30 = G := ⟨(x % 30).toNat, by omega⟩
  have hG2 : x.tmod 30 = G := by rw [Int.tmod_eq_emod_of_nonneg x0]; exact hG
  have g1 : G < 30 := by omega
  have gw : IntKind.u8.wrap (G : Int) = G := by rw [IntKind.wrap_u8]; omega
  have gv : IntKind.i64.wrap (G : Int) = G := IntWalk.i64_in _ (by omega)
  obtain ⟨N, hN⟩ : ∃ N : Nat, y % 60 = N := ⟨(y % 60).toNat, by omega⟩
  have hN2 : y.tmod 60 = N := by rw [Int.tmod_eq_emod_of_nonneg y0]; exact hN
  have n1 : N < 60 := by omega
  have nw : IntKind.u8.wrap (N : Int) = N := by rw [IntKind.wrap_u8]; omega
  have nv : IntKind.i64.wrap (N : Int) = N := IntWalk.i64_in _ (by omega)
  clear hG hN x0 y0
  go_enter Try.func6, Try.ntmps6
  go_wp2_with fail
  refine (gz_new (Z := noZ) (G : Int) (Below.refl _ w) noZ_low).mono ?_
  rintro e w1 ⟨b, rfl, s, _⟩
  rw [gr_cut (by omega) (by omega)] at s
  have HS : Hid (LostR w w1 b G 0) := Lib.hid (by unfold LostR; simpa [upI] using s)
  clear s hG2 gw gv hN2 nw nv
  unfold grP
  go_wp2_with fail
  go_loopw [8] (fun s wr => ∃ i : Nat, i ≤ N ∧ s = .int .i64 i ∧ Hid (LostR w wr b G i)) (fun s _ => N - (intOf s).toNat)
  case atStart => exact ⟨0, Nat.zero_le _, rfl, HS⟩
  case round =>
    obtain ⟨i, hi, rfl, HB⟩ := hrel
    clear HS
    by_cases hlt : i < N
    · by_cases hg : i < G
      · have HN := Lib.hid (show ((upI (min i G)).length : Int) < G from by rw [upI_len]; omega)
        have HE := Lib.hid (show Gz w wr noZ b G (decide (G < i)) (upI (min i G)) from HB.out)
        go_wp2_with fail
        refine (gz_push_yes HE.out HN.out i).mono ?_
        rintro e w2 ⟨rfl, s, _⟩
        have HS := Lib.hid (show LostR w w2 b G (i + 1) from by
          have e1 : decide (G < i) = decide (G < i + 1) := by rw [decide_eq_false (by omega), decide_eq_false (by omega)]
          have e2 : upI (min i G) ++ [(i : Int)] = upI (min (i + 1) G) := by rw [show min i G = i by omega, show min (i + 1) G = i + 1 by omega, upI_succ]
          unfold LostR
          rw [← e1, ← e2]; exact s)
        clear s HN HE HB
        go_wp2
        go_roundw
        case rel => exact ⟨i + 1, by omega, by go_num, HS⟩
        case measure => simp [intOf]; omega
      · have HN := Lib.hid (show (G : Int) ≤ ((upI (min i G)).length : Int) from by rw [upI_len]; omega)
        have HE := Lib.hid (show Gz w wr noZ b G (decide (G < i)) (upI (min i G)) from HB.out)
        go_wp2_with fail
        refine (gz_push_no HE.out HN.out i).mono ?_
        rintro e w2 ⟨rfl, s, _⟩
        have HS := Lib.hid (show LostR w w2 b G (i + 1) from by
          have e1 : true = decide (G < i + 1) := (decide_eq_true (by omega)).symm
          have e2 : upI (min i G) = upI (min (i + 1) G) := by rw [show min i G = min (i + 1) G by omega]
          unfold LostR
          rw [← e1, ← e2]; exact s)
        clear s HN HE HB
        go_wp2
        go_roundw
        case rel => exact ⟨i + 1, by omega, by go_num, HS⟩
        case measure => simp [intOf]; omega
    · obtain rfl : i = N := by omega
      have HC : Hid (∃ L, (L = decide (G < i)) ∧ Gz w wr noZ b G L (upI (min i G))) := Lib.hid ⟨_, rfl, HB.out⟩
      obtain ⟨L, hL, hE⟩ := HC.out
      have HE := Lib.hid hE
      clear HB HC hE
      have hs : (L = true ∧ G < i) ∨ (L = false ∧ i ≤ G) := by
        by_cases h : G < i
        · exact .inl ⟨by rw [hL]; exact decide_eq_true h, h⟩
        · exact .inr ⟨by rw [hL]; exact decide_eq_false h, by omega⟩
      clear hL
      rcases hs with ⟨rfl, hs⟩ | ⟨rfl, hs⟩
      all_goals
        go_wp2_with fail
        refine (gz_lost HE.out).mono ?_
        rintro e w2 ⟨rfl, rfl⟩
        rcases (show min i G = 0 ∨ ∃ k, min i G = k + 1 from by cases min i G <;> simp) with h0 | ⟨k, h0⟩
        · rw [h0] at HE
          have HE : Hid (Gz w wr noZ b G _ []) := HE
          clear h0
          go_wp2_with fail
          refine (gz_pop_no HE.out).mono ?_
          rintro e w2 ⟨rfl, rfl⟩
          go_wp2_with fail
          refine (gz_lost HE.out).mono ?_
          rintro e w2 ⟨rfl, rfl⟩
          go_wp2_with fail
          refine (gz_found HE.out).mono ?_
          rintro e w2 ⟨rfl, s, _⟩
          have HE := Lib.hid s
          clear s
          go_wp2_with fail
          refine (grAwake_walk w2).mono ?_
          rintro e w3 ⟨rfl, bb⟩
          have HE := Lib.hid (HE.out.keep bb)
          clear bb
          go_wp2_with fail
          refine (gz_lost HE.out).mono ?_
          rintro e w4 ⟨rfl, rfl⟩
          go_wp2
          go_ret
          exact ⟨rfl, HE.out.bel⟩
        · rw [h0, upI_succ] at HE
          clear h0
          go_wp2_with fail
          refine (gz_pop_yes HE.out).mono ?_
          rintro e w2 ⟨rfl, s, _⟩
          have HE := Lib.hid s
          clear s
          go_wp2_with fail
          refine (gz_lost HE.out).mono ?_
          rintro e w3 ⟨rfl, rfl⟩
          go_wp2_with fail
          refine (gz_found HE.out).mono ?_
          rintro e w3 ⟨rfl, s, _⟩
          have HE := Lib.hid s
          clear s
          go_wp2_with fail
          refine (grAwake_walk w3).mono ?_
          rintro e w4 ⟨rfl, bb⟩
          have HE := Lib.hid (HE.out.keep bb)
          clear bb
          go_wp2_with fail
          refine (gz_lost HE.out).mono ?_
          rintro e w5 ⟨rfl, rfl⟩
          go_wp2
          go_ret
          exact ⟨rfl, HE.out.bel⟩
end Go.Proofs.Ytbfgmpbbodlgiaa

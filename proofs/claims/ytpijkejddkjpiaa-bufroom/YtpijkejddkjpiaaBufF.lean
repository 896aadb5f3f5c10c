/- BufRoom: there are never more than may be; one that is taken makes room for one. -/
import Derived.Test.YtpijkejddkjpiaaBufE
namespace Go.Proofs.Ytpijkejddkjpiaa
open Go.RowKit

def upI (n : Nat) : List Int := (List.range n).map Int.ofNat
theorem upI_len (n : Nat) : (upI n).length = n := by simp [upI]
theorem upI_succ (n : Nat) : upI (n + 1) = upI n ++ [(n : Int)] := by simp [upI, List.range_succ]
theorem upI_zero (n : Nat) : ∃ r, upI (n + 1) = 0 :: r ∧ r.length = n := by
  refine ⟨(upI (n + 1)).drop 1, bf_drop (j := 0) ?_, by rw [List.length_drop, upI_len]; rfl⟩
  simp

set_option maxHeartbeats 4000000 in
theorem bufRoom_walk (x n : Int) (x0 : 0 ≤ x) (w : World) :
    Calls Try.prog 6 #[.int .u8 x, .int .i64 n] w fun e w' => e = .returned (.bool true) ∧ Below w.heap.size w w' := by
  obtain ⟨G, hG⟩ : ∃ G : Nat, x % 50 = G := ⟨(x % 50).toNat, by omega⟩
  have hG2 : x.tmod 50 = G := by rw [Int.tmod_eq_emod_of_nonneg x0]; exact hG
  have g1 : G < 50 := by omega
  have gw : IntKind.u8.wrap (G : Int) = G := by rw [IntKind.wrap_u8]; omega
  have gv : IntKind.i64.wrap (G : Int) = G := IntWalk.i64_in _ (by omega)
  clear hG x0
  go_enter Try.func6, Try.ntmps6
  go_wp2_with fail
  refine (bs_new (G : Int) (Below.refl _ w)).mono ?_
  rintro e w1 ⟨b, rfl, s⟩
  rw [cutI_id9 (by omega) (by omega)] at s
  have HS : Hid (Bs w w1 b G (upI 0)) := Lib.hid s
  clear s
  unfold bfP
  go_wp2_with fail
  go_loopw [7] (fun s wr => ∃ i : Nat, i ≤ G ∧ s = .int .i64 i ∧ Hid (Bs w wr b G (upI i))) (fun s _ => G - (intOf s).toNat)
  case atStart => exact ⟨0, Nat.zero_le _, rfl, HS⟩
  case round =>
    obtain ⟨i, hi, rfl, HB⟩ := hrel
    clear HS
    by_cases hlt : i < G
    · have HN := Lib.hid (show ((upI i).length : Int) < G from by rw [upI_len]; omega)
      go_wp2_with fail
      refine (bs_put_yes HB.out HN.out i).mono ?_
      rintro e w2 ⟨rfl, s⟩
      rw [← upI_succ] at s
      have HS := Lib.hid s
      clear s HN
      go_wp2
      go_roundw
      case rel => exact ⟨i + 1, by omega, by go_num, HS⟩
      case measure => simp [intOf]; omega
    · obtain rfl : i = G := by omega
      have HN := Lib.hid (show (i : Int) ≤ ((upI i).length : Int) from by rw [upI_len]; omega)
      have HLn := Lib.hid (upI_len i)
      go_wp2_with fail
      refine (bs_put_no HB.out HN.out n).mono ?_
      rintro e w2 ⟨rfl, s⟩
      have HS := Lib.hid s
      clear s HB
      go_wp2_with fail
      refine (bs_len HS.out).mono ?_
      rintro e w3 ⟨rfl, rfl⟩
      rw [HLn.out]
      by_cases h0 : i = 0
      · subst h0
        go_wp2_with fail
        refine (bfAwake_walk w2).mono ?_
        rintro e w3 ⟨rfl, bb⟩
        have HE := Lib.hid (HS.out.keep bb)
        clear bb
        go_wp2
        go_ret
        exact ⟨rfl, HE.out.bel⟩
      · obtain ⟨G', rfl⟩ : ∃ G', i = G' + 1 := ⟨i - 1, by omega⟩
        obtain ⟨r, hr, rl⟩ := upI_zero G'
        rw [hr] at HS
        have RL := Lib.hid rl
        clear hr rl HN HLn
        go_wp2_with fail
        refine (bs_take_yes HS.out).mono ?_
        rintro e w3 ⟨rfl, s⟩
        have HS := Lib.hid s
        clear s
        go_wp2_with fail
        refine (bfAwake_walk w3).mono ?_
        rintro e w4 ⟨rfl, bb⟩
        have HS := Lib.hid (HS.out.keep bb)
        clear bb
        go_wp2_with fail
        refine (bs_put_yes HS.out (by rw [RL.out]; omega) n).mono ?_
        rintro e w5 ⟨rfl, s⟩
        have HS := Lib.hid s
        clear s
        go_wp2_with fail
        refine (bs_put_no HS.out (by rw [List.length_append, RL.out, List.length_singleton]; omega) n).mono ?_
        rintro e w6 ⟨rfl, s⟩
        have HS := Lib.hid s
        clear s
        go_wp2_with fail
        refine (bs_len HS.out).mono ?_
        rintro e w7 ⟨rfl, rfl⟩
        rw [List.length_append, RL.out, List.length_singleton]
        go_wp2
        go_ret
        exact ⟨by first | rfl | exact ret_bool (by simp), HS.out.bel⟩
end Go.Proofs.Ytpijkejddkjpiaa

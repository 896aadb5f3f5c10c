/- The walks of ConfMost and ConfParts. -/
import Derived.Test.YtehnpljegpiilaaConfE
namespace Go.Proofs.Ytehnpljegpiilaa
open Go.RowKit

def lawMost (ha nu pz st lg mi ma c : Int) : Int := (((c + 2) * (mi + ma) + 8) * pz + ha + st + 4 * nu) * (lg + 4) * (2 * lg + 24)

theorem mostI_law (ha nu pz st lg mi ma f : Int) : mostI ha nu pz st lg mi ma f = lawMost ha nu pz st lg mi ma (clI f lg) := by
  unfold mostI lawMost
  generalize ((clI f lg + 2) * (mi + ma) + 8) * pz = x
  rw [show x + (ha + st + 4 * nu) = x + ha + st + 4 * nu from by omega]

set_option maxHeartbeats 4000000 in
set_option maxRecDepth 100000 in
theorem confMost_walk (ha nu ps pz cd bf st tn lg mi ma na ja f : Int) (w : World) :
    Calls Try.prog 5 #[cfV ha nu ps pz cd bf st tn lg mi ma na ja, .int .i64 f] w fun e w' => e = .returned (.bool true) ∧ Below w.heap.size w w' := by
  have hM := lawMay_any ha nu ps pz cd bf st tn lg mi ma na ja
  cases hm : mayB ha nu ps pz cd bf st tn lg mi ma na ja
  · rw [hm] at hM
    have HM := Lib.hid hM
    clear hM hm
    go_enter Try.func5, Try.ntmps5
    go_wp2_with fail
    refine (HM.out _).mono ?_
    rintro e w1 ⟨rfl, b1⟩
    go_wp2_with fail
    refine (awake3_any _).mono ?_
    rintro e w2 ⟨rfl, b2⟩
    go_wp2
    go_ret
    exact ⟨rfl, below_trans (below_alloc_trans _ b1) b2⟩
  · rw [hm] at hM
    have h := (mayB_iff ..).1 hm
    have hQ := fun w => most_any ha nu ps pz cd bf st tn lg mi ma na ja f w h
    rw [mostI_law] at hQ
    obtain ⟨c0, c1⟩ := clI_in f lg h.lg0
    obtain ⟨lg0, lg1⟩ := And.intro h.lg0 h.lg1
    obtain ⟨p1, p2, p3, p4⟩ := most_in c0 (by omega) h.mi0 h.mi1 h.ma0 h.ma1 h.pz0 h.pz1 h.lg0 h.lg1 h.ha0 h.ha1 h.st0 h.st1 h.nu0 h.nu1
    obtain ⟨mi0, mi1, ma0, ma1⟩ := And.intro h.mi0 (And.intro h.mi1 (And.intro h.ma0 h.ma1))
    obtain ⟨ha0, ha1, st0, st1, nu0, nu1⟩ := And.intro h.ha0 (And.intro h.ha1 (And.intro h.st0 (And.intro h.st1 (And.intro h.nu0 h.nu1))))
    rw [show ((clI f lg + 2) * (mi + ma) + 8) * pz + (ha + st + 4 * nu) = ((clI f lg + 2) * (mi + ma) + 8) * pz + ha + st + 4 * nu from by omega] at p3 p4
    unfold lawMost at hQ
    have HM := Lib.hid hM
    have HQ := Lib.hid hQ
    have P1 := Lib.hid p1
    have P2 := Lib.hid p2
    have P3 := Lib.hid p3
    have P4 := Lib.hid p4
    clear hM hm h hQ p1 p2 p3 p4
    go_enter Try.func5, Try.ntmps5
    go_wp2_with fail
    refine (HM.out _).mono ?_
    rintro e w1 ⟨rfl, b1⟩
    have k1 := (Blk.new w _ _).keep b1
    have B1 := Lib.hid (below_alloc_trans _ b1)
    clear b1
    obtain ⟨q0, q1, q2, q3, q4, q5, q6, q7, q8, q9, q10, q11, q12⟩ := k1.thirteen
    go_upto_if 14 with (fail)
    go_cut [5] (fun s wc => s = .int .i64 (if f < 0 then 0 else f) ∧ w1 = wc)
    case first =>
      by_cases hf : f < 0
      all_goals
        go_wp2
        go_meet
        case rel => exact ⟨congrArg (Value.int .i64) (by split <;> omega), rfl⟩
    case rest =>
    obtain ⟨rfl, rfl⟩ := hcut
    obtain ⟨d, hd⟩ : ∃ d, (if f < 0 then (0 : Int) else f) = d := ⟨_, rfl⟩
    have hc : clI f lg = if lg < d then lg else d := by
      subst hd
      unfold clI
      by_cases hf : f < 0
      · rw [if_pos hf, if_pos hf, if_neg (by omega)]
      · rw [if_neg hf, if_neg hf]
    rw [hd]
    generalize clI f lg = c at *
    have HC := Lib.hid hc
    clear hc hd
    go_upto_if 18 with (fail)
    go_cut [5] (fun s wc => s = .int .i64 c ∧ w1 = wc)
    case first =>
      by_cases hf : lg < d
      all_goals
        go_wp2
        go_meet
        case rel => exact ⟨congrArg (Value.int .i64) (by rw [HC.out]; split <;> omega), rfl⟩
    case rest =>
    obtain ⟨rfl, rfl⟩ := hcut
    have p1 := P1.out
    have p2 := P2.out
    have p3 := P3.out
    have p4 := P4.out
    go_wp2_with fail
    refine (awake3_any _).mono ?_
    rintro e w2 ⟨rfl, b2⟩
    have k2 := k1.keep b2
    have B2 := Lib.hid (below_trans B1.out b2)
    clear q0 q1 q2 q3 q4 q5 q6 q7 q8 q9 q10 q11 q12 b2 B1 k1
    obtain ⟨q0, q1, q2, q3, q4, q5, q6, q7, q8, q9, q10, q11, q12⟩ := k2.thirteen
    go_wp2_with fail
    refine (HQ.out _).mono ?_
    rintro e w3 ⟨rfl, b3⟩
    clear q0 q1 q2 q3 q4 q5 q6 q7 q8 q9 q10 q11 q12
    go_wp2
    go_ret
    exact ⟨rfl, below_trans B2.out b3⟩
end Go.Proofs.Ytehnpljegpiilaa

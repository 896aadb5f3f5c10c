/- Contracts of the statements' own may and of the fixed fact (awake); the walk of ConfChecks. -/
import Derived.Test.YtehnpljegpiilaaConfC
import Derived.Deep.DeepCutAuto
namespace Go.Proofs.Ytehnpljegpiilaa
open Go.RowKit

def aB (ha nu ps pz bf st : Int) : Bool := wiB ha 1 64 && (wiB nu 8 4096 && (wiB ps 0 64 && (wiB pz 16 256 && (wiB bf 0 256 && (wiB st 1 256)))))
def bB (nu ps tn lg mi ma na ja : Int) : Bool := wiB tn 1 7 && (wiB lg 0 64 && (wiB mi 0 64 && (wiB ma 0 64 && (wiB na 0 nu && (wiB ja 0 ps)))))

theorem aB_nu {ha nu ps pz bf st : Int} (h : aB ha nu ps pz bf st = true) : 8 ≤ nu ∧ nu ≤ 4096 := by
  simp only [aB, Bool.and_eq_true, wiB_iff] at h
  exact h.2.1

theorem mayB_law (ha nu ps pz cd bf st tn lg mi ma na ja : Int) : mayB ha nu ps pz cd bf st tn lg mi ma na ja = (aB ha nu ps pz bf st && (bB nu ps tn lg mi ma na ja && (decide (1 ≤ cd) && ((pz.tmod cd == 0) && decide (lg ≤ nu - 2))))) := by
  rw [Bool.eq_iff_iff, mayB_iff]
  simp only [aB, bB, Bool.and_eq_true, wiB_iff, decide_eq_true_eq, beq_iff_eq]
  constructor
  · intro h
    exact ⟨⟨⟨h.ha0, h.ha1⟩, ⟨h.nu0, h.nu1⟩, ⟨h.ps0, h.ps1⟩, ⟨h.pz0, h.pz1⟩, ⟨h.bf0, h.bf1⟩, h.st0, h.st1⟩, ⟨⟨h.tn0, h.tn1⟩, ⟨h.lg0, h.lg1⟩, ⟨h.mi0, h.mi1⟩, ⟨h.ma0, h.ma1⟩, ⟨h.na0, h.na1⟩, h.ja0, h.ja1⟩, h.cd0, h.cd1, h.lg2⟩
  · rintro ⟨⟨⟨a1, a2⟩, ⟨a3, a4⟩, ⟨a5, a6⟩, ⟨a7, a8⟩, ⟨a9, a10⟩, a11, a12⟩, ⟨⟨b1, b2⟩, ⟨b3, b4⟩, ⟨b5, b6⟩, ⟨b7, b8⟩, ⟨b9, b10⟩, b11, b12⟩, d1, d2, d3⟩
    exact ⟨a1, a2, a3, a4, a5, a6, a7, a8, d1, d2, a9, a10, a11, a12, b1, b2, b3, b4, d3, b5, b6, b7, b8, b9, b10, b11, b12⟩

set_option maxHeartbeats 4000000 in
set_option maxRecDepth 100000 in
theorem lawMay_any (ha nu ps pz cd bf st tn lg mi ma na ja : Int) (w : World) :
    Calls Try.prog 7 #[cfV ha nu ps pz cd bf st tn lg mi ma na ja] w fun e w' => e = .returned (.bool (mayB ha nu ps pz cd bf st tn lg mi ma na ja)) ∧ Below w.heap.size w w' := by
  have hk := Blk.new w #[.int .i64 ha, .int .i64 nu, .int .i64 ps, .int .i64 pz, .int .i64 cd, .int .i64 bf, .int .i64 st, .int .i64 tn, .int .i64 lg, .int .i64 mi, .int .i64 ma, .int .i64 na, .int .i64 ja] 23
  have hb : Below w.heap.size w (w.alloc (.cells #[.int .i64 ha, .int .i64 nu, .int .i64 ps, .int .i64 pz, .int .i64 cd, .int .i64 bf, .int .i64 st, .int .i64 tn, .int .i64 lg, .int .i64 mi, .int .i64 ma, .int .i64 na, .int .i64 ja] 23)) := (Below.refl _ _).alloc (Nat.le_refl _) _
  have HK := Lib.hid hk
  have HB := Lib.hid hb
  clear hk hb
  go_enter Try.func7, Try.ntmps7
  go_upto_region 1 with (fail)
  generalize w.alloc (.cells #[.int .i64 ha, .int .i64 nu, .int .i64 ps, .int .i64 pz, .int .i64 cd, .int .i64 bf, .int .i64 st, .int .i64 tn, .int .i64 lg, .int .i64 mi, .int .i64 ma, .int .i64 na, .int .i64 ja] 23) = W at HK HB ⊢
  obtain ⟨c0, c1, c2, c3, c4, c5, c6, c7, c8, c9, c10, c11, c12⟩ := HK.out.thirteen
  go_cut [3] (fun s wc => s = .bool (aB ha nu ps pz bf st) ∧ W = wc)
  case first =>
    cases h1 : wiB ha 1 64
    case false => as_aux_lemma =>
      go_wp2_with (go_at_call 14; refine (lawIn_any _ _ _ _).mono ?_; rintro e w' ⟨rfl, rfl⟩)
      go_meet
      case rel => exact ⟨by simp [aB, *], rfl⟩
    cases h2 : wiB nu 8 4096
    case false => as_aux_lemma =>
      go_wp2_with (go_at_call 14; refine (lawIn_any _ _ _ _).mono ?_; rintro e w' ⟨rfl, rfl⟩)
      go_meet
      case rel => exact ⟨by simp [aB, *], rfl⟩
    cases h3 : wiB ps 0 64
    case false => as_aux_lemma =>
      go_wp2_with (go_at_call 14; refine (lawIn_any _ _ _ _).mono ?_; rintro e w' ⟨rfl, rfl⟩)
      go_meet
      case rel => exact ⟨by simp [aB, *], rfl⟩
    cases h4 : wiB pz 16 256
    case false => as_aux_lemma =>
      go_wp2_with (go_at_call 14; refine (lawIn_any _ _ _ _).mono ?_; rintro e w' ⟨rfl, rfl⟩)
      go_meet
      case rel => exact ⟨by simp [aB, *], rfl⟩
    cases h5 : wiB bf 0 256
    case false => as_aux_lemma =>
      go_wp2_with (go_at_call 14; refine (lawIn_any _ _ _ _).mono ?_; rintro e w' ⟨rfl, rfl⟩)
      go_meet
      case rel => exact ⟨by simp [aB, *], rfl⟩
    cases h6 : wiB st 1 256
    case false => as_aux_lemma =>
      go_wp2_with (go_at_call 14; refine (lawIn_any _ _ _ _).mono ?_; rintro e w' ⟨rfl, rfl⟩)
      go_meet
      case rel => exact ⟨by simp [aB, *], rfl⟩
    go_wp2_with (go_at_call 14; refine (lawIn_any _ _ _ _).mono ?_; rintro e w' ⟨rfl, rfl⟩)
    go_meet
    case rel => exact ⟨by simp [aB, *], rfl⟩

  case rest =>
  obtain ⟨rfl, rfl⟩ := hcut
  go_upto_region 2 with (fail)
  go_cut [4] (fun s wc => s = .bool (bB nu ps tn lg mi ma na ja) ∧ W = wc)
  case first =>
    cases k1 : wiB tn 1 7
    case false => as_aux_lemma =>
      go_wp2_with (go_at_call 14; refine (lawIn_any _ _ _ _).mono ?_; rintro e w' ⟨rfl, rfl⟩)
      go_meet
      case rel => exact ⟨by simp [bB, *], rfl⟩
    cases k2 : wiB lg 0 64
    case false => as_aux_lemma =>
      go_wp2_with (go_at_call 14; refine (lawIn_any _ _ _ _).mono ?_; rintro e w' ⟨rfl, rfl⟩)
      go_meet
      case rel => exact ⟨by simp [bB, *], rfl⟩
    cases k3 : wiB mi 0 64
    case false => as_aux_lemma =>
      go_wp2_with (go_at_call 14; refine (lawIn_any _ _ _ _).mono ?_; rintro e w' ⟨rfl, rfl⟩)
      go_meet
      case rel => exact ⟨by simp [bB, *], rfl⟩
    cases k4 : wiB ma 0 64
    case false => as_aux_lemma =>
      go_wp2_with (go_at_call 14; refine (lawIn_any _ _ _ _).mono ?_; rintro e w' ⟨rfl, rfl⟩)
      go_meet
      case rel => exact ⟨by simp [bB, *], rfl⟩
    cases k5 : wiB na 0 nu
    case false => as_aux_lemma =>
      go_wp2_with (go_at_call 14; refine (lawIn_any _ _ _ _).mono ?_; rintro e w' ⟨rfl, rfl⟩)
      go_meet
      case rel => exact ⟨by simp [bB, *], rfl⟩
    cases k6 : wiB ja 0 ps
    case false => as_aux_lemma =>
      go_wp2_with (go_at_call 14; refine (lawIn_any _ _ _ _).mono ?_; rintro e w' ⟨rfl, rfl⟩)
      go_meet
      case rel => exact ⟨by simp [bB, *], rfl⟩
    go_wp2_with (go_at_call 14; refine (lawIn_any _ _ _ _).mono ?_; rintro e w' ⟨rfl, rfl⟩)
    go_meet
    case rel => exact ⟨by simp [bB, *], rfl⟩

  case rest =>
  obtain ⟨rfl, rfl⟩ := hcut
  have HM := Lib.hid (mayB_law ha nu ps pz cd bf st tn lg mi ma na ja)
  cases h1 : aB ha nu ps pz bf st
  case false => as_aux_lemma =>
    go_wp2
    go_ret
    exact ⟨by rw [HM.out, h1]; rfl, HB.out⟩
  cases h2 : bB nu ps tn lg mi ma na ja
  case false => as_aux_lemma =>
    go_wp2
    go_ret
    exact ⟨by rw [HM.out, h1, h2]; rfl, HB.out⟩
  by_cases h3 : 1 ≤ cd
  · cases h4 : pz.tmod cd == 0
    · have h4' : ¬ pz.tmod cd = 0 := by simpa using h4
      as_aux_lemma =>
        go_wp2
        go_ret
        exact ⟨by rw [HM.out, h1, h2, h4]; simp, HB.out⟩
    · have h4' : pz.tmod cd = 0 := by simpa using h4
      obtain ⟨n0, n1⟩ := aB_nu h1
      by_cases h5 : lg ≤ nu - 2
      · go_wp2
        go_ret
        exact ⟨by rw [HM.out, h1, h2, h4]; simp [h3, h5], HB.out⟩
      · go_wp2
        go_ret
        exact ⟨by rw [HM.out, h1, h2, h4]; simp [h3, h5], HB.out⟩
  · as_aux_lemma =>
      go_wp2
      go_ret
      exact ⟨by rw [HM.out, h1, h2]; simp; omega, HB.out⟩
end Go.Proofs.Ytehnpljegpiilaa

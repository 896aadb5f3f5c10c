
/- The walk of PacerGrows. -/
import Derived.Test.YthfbhdffmipmpaaPcB
namespace Go.Proofs.Ythfbhdffmipmpaa
open Go.RowKit

set_option maxHeartbeats 4000000 in
set_option maxRecDepth 100000 in
theorem pacerGrows_walk (ha nu ps pz cd bf st tn lg mi ma na ja words tax used free x y : Int) (w0 : -9223372036854775808 ≤ words) (t0 : -9223372036854775808 ≤ tax) (u0 : -9223372036854775808 ≤ used) (f0 : -9223372036854775808 ≤ free) (x0 : 0 ≤ x) (x1 : x ≤ 65535) (y0 : 0 ≤ y) (y1 : y ≤ 65535) (w : World) :
    Calls Try.prog 4 #[cfV ha nu ps pz cd bf st tn lg mi ma na ja, .int .i64 words, .int .i64 tax, .int .i64 used, .int .i64 free, .int .u16 x, .int .u16 y] w fun e w' => e = .returned (.bool true) ∧ Below w.heap.size w w' := by
  by_cases h1 : 1152921504606846976 < words
  · skip
    go_enter Try.func4, Try.ntmps4
    have kk := Blk.new w #[.int .i64 ha, .int .i64 nu, .int .i64 ps, .int .i64 pz, .int .i64 cd, .int .i64 bf, .int .i64 st, .int .i64 tn, .int .i64 lg, .int .i64 mi, .int .i64 ma, .int .i64 na, .int .i64 ja] 23
    have bb : Below w.heap.size w (w.alloc (.cells #[.int .i64 ha, .int .i64 nu, .int .i64 ps, .int .i64 pz, .int .i64 cd, .int .i64 bf, .int .i64 st, .int .i64 tn, .int .i64 lg, .int .i64 mi, .int .i64 ma, .int .i64 na, .int .i64 ja] 23)) := (Below.refl _ _).alloc (Nat.le_refl _) _
    have KK := Lib.hid kk
    have BB := Lib.hid bb
    clear kk bb
    go_wp2_with fail
    refine (awake16_any _).mono ?_
    rintro e w1 ⟨rfl, b2⟩
    have KK := Lib.hid (KK.out.keep b2)
    have BB := Lib.hid (below_trans BB.out b2)
    clear b2
    go_wp2
    go_ret
    exact ⟨rfl, BB.out⟩
  by_cases h2 : 1152921504606846976 < tax
  · skip
    go_enter Try.func4, Try.ntmps4
    have kk := Blk.new w #[.int .i64 ha, .int .i64 nu, .int .i64 ps, .int .i64 pz, .int .i64 cd, .int .i64 bf, .int .i64 st, .int .i64 tn, .int .i64 lg, .int .i64 mi, .int .i64 ma, .int .i64 na, .int .i64 ja] 23
    have bb : Below w.heap.size w (w.alloc (.cells #[.int .i64 ha, .int .i64 nu, .int .i64 ps, .int .i64 pz, .int .i64 cd, .int .i64 bf, .int .i64 st, .int .i64 tn, .int .i64 lg, .int .i64 mi, .int .i64 ma, .int .i64 na, .int .i64 ja] 23)) := (Below.refl _ _).alloc (Nat.le_refl _) _
    have KK := Lib.hid kk
    have BB := Lib.hid bb
    clear kk bb
    go_wp2_with fail
    refine (awake16_any _).mono ?_
    rintro e w1 ⟨rfl, b2⟩
    have KK := Lib.hid (KK.out.keep b2)
    have BB := Lib.hid (below_trans BB.out b2)
    clear b2
    go_wp2
    go_ret
    exact ⟨rfl, BB.out⟩
  by_cases h3 : 1152921504606846976 < used
  · skip
    go_enter Try.func4, Try.ntmps4
    have kk := Blk.new w #[.int .i64 ha, .int .i64 nu, .int .i64 ps, .int .i64 pz, .int .i64 cd, .int .i64 bf, .int .i64 st, .int .i64 tn, .int .i64 lg, .int .i64 mi, .int .i64 ma, .int .i64 na, .int .i64 ja] 23
    have bb : Below w.heap.size w (w.alloc (.cells #[.int .i64 ha, .int .i64 nu, .int .i64 ps, .int .i64 pz, .int .i64 cd, .int .i64 bf, .int .i64 st, .int .i64 tn, .int .i64 lg, .int .i64 mi, .int .i64 ma, .int .i64 na, .int .i64 ja] 23)) := (Below.refl _ _).alloc (Nat.le_refl _) _
    have KK := Lib.hid kk
    have BB := Lib.hid bb
    clear kk bb
    go_wp2_with fail
    refine (awake16_any _).mono ?_
    rintro e w1 ⟨rfl, b2⟩
    have KK := Lib.hid (KK.out.keep b2)
    have BB := Lib.hid (below_trans BB.out b2)
    clear b2
    go_wp2
    go_ret
    exact ⟨rfl, BB.out⟩
  by_cases h4 : 1152921504606846976 < free
  · skip
    go_enter Try.func4, Try.ntmps4
    have kk := Blk.new w #[.int .i64 ha, .int .i64 nu, .int .i64 ps, .int .i64 pz, .int .i64 cd, .int .i64 bf, .int .i64 st, .int .i64 tn, .int .i64 lg, .int .i64 mi, .int .i64 ma, .int .i64 na, .int .i64 ja] 23
    have bb : Below w.heap.size w (w.alloc (.cells #[.int .i64 ha, .int .i64 nu, .int .i64 ps, .int .i64 pz, .int .i64 cd, .int .i64 bf, .int .i64 st, .int .i64 tn, .int .i64 lg, .int .i64 mi, .int .i64 ma, .int .i64 na, .int .i64 ja] 23)) := (Below.refl _ _).alloc (Nat.le_refl _) _
    have KK := Lib.hid kk
    have BB := Lib.hid bb
    clear kk bb
    go_wp2_with fail
    refine (awake16_any _).mono ?_
    rintro e w1 ⟨rfl, b2⟩
    have KK := Lib.hid (KK.out.keep b2)
    have BB := Lib.hid (below_trans BB.out b2)
    clear b2
    go_wp2
    go_ret
    exact ⟨rfl, BB.out⟩
  have e1 : IntKind.i64.wrap (words + x) = words + x := by rw [IntKind.wrap_i64]; omega
  have e2 : IntKind.i64.wrap (tax + y) = tax + y := by rw [IntKind.wrap_i64]; omega
  have e3 : IntKind.i64.wrap (used + x) = used + x := by rw [IntKind.wrap_i64]; omega
  have e4 : IntKind.i64.wrap (free + y) = free + y := by rw [IntKind.wrap_i64]; omega
  obtain ⟨q, hq⟩ : ∃ q, qI words tax = q := ⟨_, rfl⟩
  obtain ⟨p, hp⟩ : ∃ p, qI (words + x) (tax + y) = p := ⟨_, rfl⟩
  have hqp : ¬ p < q := by rw [← hq, ← hp]; exact Int.not_lt.2 (qI_mono (by omega) (by omega))
  have hQ := fun w => quantum_any words tax w
  have hP := fun w => quantum_any (words + x) (tax + y) w
  rw [hq] at hQ
  rw [hp] at hP
  have HQ := Lib.hid hQ
  have HP := Lib.hid hP
  clear hQ hP hq hp
  have m1 := fun w => minor_any ha nu ps pz cd bf st tn lg mi ma na ja used w
  have m2 := fun w => minor_any ha nu ps pz cd bf st tn lg mi ma na ja (used + x) w
  have j1 := fun w => major_any ha nu ps pz cd bf st tn lg mi ma na ja (free + y) w
  have j2 := fun w => major_any ha nu ps pz cd bf st tn lg mi ma na ja free w
  have M1 := Lib.hid m1
  have M2 := Lib.hid m2
  have J1 := Lib.hid j1
  have J2 := Lib.hid j2
  clear m1 m2 j1 j2
  by_cases a1 : na ≤ used
  · by_cases a2 : free + y ≤ ja
    · skip
      go_enter Try.func4, Try.ntmps4
      have kk := Blk.new w #[.int .i64 ha, .int .i64 nu, .int .i64 ps, .int .i64 pz, .int .i64 cd, .int .i64 bf, .int .i64 st, .int .i64 tn, .int .i64 lg, .int .i64 mi, .int .i64 ma, .int .i64 na, .int .i64 ja] 23
      have bb : Below w.heap.size w (w.alloc (.cells #[.int .i64 ha, .int .i64 nu, .int .i64 ps, .int .i64 pz, .int .i64 cd, .int .i64 bf, .int .i64 st, .int .i64 tn, .int .i64 lg, .int .i64 mi, .int .i64 ma, .int .i64 na, .int .i64 ja] 23)) := (Below.refl _ _).alloc (Nat.le_refl _) _
      have KK := Lib.hid kk
      have BB := Lib.hid bb
      clear kk bb
      go_wp2_with fail
      refine (HP.out _).mono ?_
      rintro e w1 ⟨rfl, rfl⟩
      go_wp2_with fail
      refine (HQ.out _).mono ?_
      rintro e w1 ⟨rfl, rfl⟩
      go_wp2_with fail
      refine (awake16_any _).mono ?_
      rintro e w1 ⟨rfl, b2⟩
      have KK := Lib.hid (KK.out.keep b2)
      have BB := Lib.hid (below_trans BB.out b2)
      clear b2
      obtain ⟨c0, c1, c2, c3, c4, c5, c6, c7, c8, c9, c10, c11, c12⟩ := KK.out.thirteen
      go_wp2_with fail
      clear c0 c1 c2 c3 c4 c5 c6 c7 c8 c9 c10 c11 c12
      refine (M1.out _).mono ?_
      rw [show decide (na ≤ used) = true from by simpa using a1]
      rintro e w1 ⟨rfl, b2⟩
      have KK := Lib.hid (KK.out.keep b2)
      have BB := Lib.hid (below_trans BB.out b2)
      clear b2
      obtain ⟨c0, c1, c2, c3, c4, c5, c6, c7, c8, c9, c10, c11, c12⟩ := KK.out.thirteen
      go_wp2_with fail
      clear c0 c1 c2 c3 c4 c5 c6 c7 c8 c9 c10 c11 c12
      refine (M2.out _).mono ?_
      rw [show decide (na ≤ used + x) = true from by simp; omega]
      rintro e w1 ⟨rfl, b2⟩
      have KK := Lib.hid (KK.out.keep b2)
      have BB := Lib.hid (below_trans BB.out b2)
      clear b2
      obtain ⟨c0, c1, c2, c3, c4, c5, c6, c7, c8, c9, c10, c11, c12⟩ := KK.out.thirteen
      go_wp2_with fail
      clear c0 c1 c2 c3 c4 c5 c6 c7 c8 c9 c10 c11 c12
      refine (J1.out _).mono ?_
      rw [show decide (free + y ≤ ja) = true from by simpa using a2]
      rintro e w1 ⟨rfl, b2⟩
      have KK := Lib.hid (KK.out.keep b2)
      have BB := Lib.hid (below_trans BB.out b2)
      clear b2
      obtain ⟨c0, c1, c2, c3, c4, c5, c6, c7, c8, c9, c10, c11, c12⟩ := KK.out.thirteen
      go_wp2_with fail
      clear c0 c1 c2 c3 c4 c5 c6 c7 c8 c9 c10 c11 c12
      refine (J2.out _).mono ?_
      rw [show decide (free ≤ ja) = true from by simp; omega]
      rintro e w1 ⟨rfl, b2⟩
      have KK := Lib.hid (KK.out.keep b2)
      have BB := Lib.hid (below_trans BB.out b2)
      clear b2
      go_wp2
      go_ret
      exact ⟨rfl, BB.out⟩
    · skip
      go_enter Try.func4, Try.ntmps4
      have kk := Blk.new w #[.int .i64 ha, .int .i64 nu, .int .i64 ps, .int .i64 pz, .int .i64 cd, .int .i64 bf, .int .i64 st, .int .i64 tn, .int .i64 lg, .int .i64 mi, .int .i64 ma, .int .i64 na, .int .i64 ja] 23
      have bb : Below w.heap.size w (w.alloc (.cells #[.int .i64 ha, .int .i64 nu, .int .i64 ps, .int .i64 pz, .int .i64 cd, .int .i64 bf, .int .i64 st, .int .i64 tn, .int .i64 lg, .int .i64 mi, .int .i64 ma, .int .i64 na, .int .i64 ja] 23)) := (Below.refl _ _).alloc (Nat.le_refl _) _
      have KK := Lib.hid kk
      have BB := Lib.hid bb
      clear kk bb
      go_wp2_with fail
      refine (HP.out _).mono ?_
      rintro e w1 ⟨rfl, rfl⟩
      go_wp2_with fail
      refine (HQ.out _).mono ?_
      rintro e w1 ⟨rfl, rfl⟩
      go_wp2_with fail
      refine (awake16_any _).mono ?_
      rintro e w1 ⟨rfl, b2⟩
      have KK := Lib.hid (KK.out.keep b2)
      have BB := Lib.hid (below_trans BB.out b2)
      clear b2
      obtain ⟨c0, c1, c2, c3, c4, c5, c6, c7, c8, c9, c10, c11, c12⟩ := KK.out.thirteen
      go_wp2_with fail
      clear c0 c1 c2 c3 c4 c5 c6 c7 c8 c9 c10 c11 c12
      refine (M1.out _).mono ?_
      rw [show decide (na ≤ used) = true from by simpa using a1]
      rintro e w1 ⟨rfl, b2⟩
      have KK := Lib.hid (KK.out.keep b2)
      have BB := Lib.hid (below_trans BB.out b2)
      clear b2
      obtain ⟨c0, c1, c2, c3, c4, c5, c6, c7, c8, c9, c10, c11, c12⟩ := KK.out.thirteen
      go_wp2_with fail
      clear c0 c1 c2 c3 c4 c5 c6 c7 c8 c9 c10 c11 c12
      refine (M2.out _).mono ?_
      rw [show decide (na ≤ used + x) = true from by simp; omega]
      rintro e w1 ⟨rfl, b2⟩
      have KK := Lib.hid (KK.out.keep b2)
      have BB := Lib.hid (below_trans BB.out b2)
      clear b2
      obtain ⟨c0, c1, c2, c3, c4, c5, c6, c7, c8, c9, c10, c11, c12⟩ := KK.out.thirteen
      go_wp2_with fail
      clear c0 c1 c2 c3 c4 c5 c6 c7 c8 c9 c10 c11 c12
      refine (J1.out _).mono ?_
      rw [show decide (free + y ≤ ja) = false from by simpa using a2]
      rintro e w1 ⟨rfl, b2⟩
      have KK := Lib.hid (KK.out.keep b2)
      have BB := Lib.hid (below_trans BB.out b2)
      clear b2
      go_wp2
      go_ret
      exact ⟨rfl, BB.out⟩
  · by_cases a2 : free + y ≤ ja
    · skip
      go_enter Try.func4, Try.ntmps4
      have kk := Blk.new w #[.int .i64 ha, .int .i64 nu, .int .i64 ps, .int .i64 pz, .int .i64 cd, .int .i64 bf, .int .i64 st, .int .i64 tn, .int .i64 lg, .int .i64 mi, .int .i64 ma, .int .i64 na, .int .i64 ja] 23
      have bb : Below w.heap.size w (w.alloc (.cells #[.int .i64 ha, .int .i64 nu, .int .i64 ps, .int .i64 pz, .int .i64 cd, .int .i64 bf, .int .i64 st, .int .i64 tn, .int .i64 lg, .int .i64 mi, .int .i64 ma, .int .i64 na, .int .i64 ja] 23)) := (Below.refl _ _).alloc (Nat.le_refl _) _
      have KK := Lib.hid kk
      have BB := Lib.hid bb
      clear kk bb
      go_wp2_with fail
      refine (HP.out _).mono ?_
      rintro e w1 ⟨rfl, rfl⟩
      go_wp2_with fail
      refine (HQ.out _).mono ?_
      rintro e w1 ⟨rfl, rfl⟩
      go_wp2_with fail
      refine (awake16_any _).mono ?_
      rintro e w1 ⟨rfl, b2⟩
      have KK := Lib.hid (KK.out.keep b2)
      have BB := Lib.hid (below_trans BB.out b2)
      clear b2
      obtain ⟨c0, c1, c2, c3, c4, c5, c6, c7, c8, c9, c10, c11, c12⟩ := KK.out.thirteen
      go_wp2_with fail
      clear c0 c1 c2 c3 c4 c5 c6 c7 c8 c9 c10 c11 c12
      refine (M1.out _).mono ?_
      rw [show decide (na ≤ used) = false from by simpa using a1]
      rintro e w1 ⟨rfl, b2⟩
      have KK := Lib.hid (KK.out.keep b2)
      have BB := Lib.hid (below_trans BB.out b2)
      clear b2
      obtain ⟨c0, c1, c2, c3, c4, c5, c6, c7, c8, c9, c10, c11, c12⟩ := KK.out.thirteen
      go_wp2_with fail
      clear c0 c1 c2 c3 c4 c5 c6 c7 c8 c9 c10 c11 c12
      refine (J1.out _).mono ?_
      rw [show decide (free + y ≤ ja) = true from by simpa using a2]
      rintro e w1 ⟨rfl, b2⟩
      have KK := Lib.hid (KK.out.keep b2)
      have BB := Lib.hid (below_trans BB.out b2)
      clear b2
      obtain ⟨c0, c1, c2, c3, c4, c5, c6, c7, c8, c9, c10, c11, c12⟩ := KK.out.thirteen
      go_wp2_with fail
      clear c0 c1 c2 c3 c4 c5 c6 c7 c8 c9 c10 c11 c12
      refine (J2.out _).mono ?_
      rw [show decide (free ≤ ja) = true from by simp; omega]
      rintro e w1 ⟨rfl, b2⟩
      have KK := Lib.hid (KK.out.keep b2)
      have BB := Lib.hid (below_trans BB.out b2)
      clear b2
      go_wp2
      go_ret
      exact ⟨rfl, BB.out⟩
    · skip
      go_enter Try.func4, Try.ntmps4
      have kk := Blk.new w #[.int .i64 ha, .int .i64 nu, .int .i64 ps, .int .i64 pz, .int .i64 cd, .int .i64 bf, .int .i64 st, .int .i64 tn, .int .i64 lg, .int .i64 mi, .int .i64 ma, .int .i64 na, .int .i64 ja] 23
      have bb : Below w.heap.size w (w.alloc (.cells #[.int .i64 ha, .int .i64 nu, .int .i64 ps, .int .i64 pz, .int .i64 cd, .int .i64 bf, .int .i64 st, .int .i64 tn, .int .i64 lg, .int .i64 mi, .int .i64 ma, .int .i64 na, .int .i64 ja] 23)) := (Below.refl _ _).alloc (Nat.le_refl _) _
      have KK := Lib.hid kk
      have BB := Lib.hid bb
      clear kk bb
      go_wp2_with fail
      refine (HP.out _).mono ?_
      rintro e w1 ⟨rfl, rfl⟩
      go_wp2_with fail
      refine (HQ.out _).mono ?_
      rintro e w1 ⟨rfl, rfl⟩
      go_wp2_with fail
      refine (awake16_any _).mono ?_
      rintro e w1 ⟨rfl, b2⟩
      have KK := Lib.hid (KK.out.keep b2)
      have BB := Lib.hid (below_trans BB.out b2)
      clear b2
      obtain ⟨c0, c1, c2, c3, c4, c5, c6, c7, c8, c9, c10, c11, c12⟩ := KK.out.thirteen
      go_wp2_with fail
      clear c0 c1 c2 c3 c4 c5 c6 c7 c8 c9 c10 c11 c12
      refine (M1.out _).mono ?_
      rw [show decide (na ≤ used) = false from by simpa using a1]
      rintro e w1 ⟨rfl, b2⟩
      have KK := Lib.hid (KK.out.keep b2)
      have BB := Lib.hid (below_trans BB.out b2)
      clear b2
      obtain ⟨c0, c1, c2, c3, c4, c5, c6, c7, c8, c9, c10, c11, c12⟩ := KK.out.thirteen
      go_wp2_with fail
      clear c0 c1 c2 c3 c4 c5 c6 c7 c8 c9 c10 c11 c12
      refine (J1.out _).mono ?_
      rw [show decide (free + y ≤ ja) = false from by simpa using a2]
      rintro e w1 ⟨rfl, b2⟩
      have KK := Lib.hid (KK.out.keep b2)
      have BB := Lib.hid (below_trans BB.out b2)
      clear b2
      go_wp2
      go_ret
      exact ⟨rfl, BB.out⟩
end Go.Proofs.Ythfbhdffmipmpaa

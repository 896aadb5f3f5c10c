/- The walks of the statements HeadPacks and HeadUnpacks. -/
import Derived.Test.YtjfijpbmbdjmjaaHeadD
namespace Go.Proofs.Ytjfijpbmbdjmjaa
open Go.RowKit

theorem neg_eq {a b : Bool} (h : a = b) : (!a) = !b := by rw [h]

set_option maxHeartbeats 2000000 in
theorem headPacks_walk (s p a y : Int) (g n o : Bool) (w : World) :
    Calls Try.prog 3 #[hdV s p a y g n o] w fun e w' => e = .returned (.bool true) ∧ Below w.heap.size w w' := by
  cases hg : goodB s p a y
  · go_enter Try.func3, Try.ntmps3
    go_wp2_with fail
    refine (pack_no _ _ _ _ _ _ _ _ hg).mono ?_
    rintro e w1 ⟨rfl, b1⟩
    have k1 := (Blk.new w _ _).keep b1
    obtain ⟨c0, c1, c2, c3, c4, c5, c6, _⟩ := k1.seven
    go_wp2_with fail
    refine (refGood_any _ _ _ _ _ _ _ _).mono ?_
    rintro e w2 ⟨rfl, b2⟩
    have k2 := k1.keep b2
    obtain ⟨d0, d1, d2, d3, d4, d5, d6, _⟩ := k2.seven
    go_wp2_with fail
    refine (awake_any _).mono ?_
    rintro e w3 ⟨rfl, b3⟩
    have k3 := k2.keep b3
    obtain ⟨f0, f1, f2, f3, f4, f5, f6, _⟩ := k3.seven
    go_wp2_with fail
    refine (good_any _ _ _ _ _ _ _ _).mono ?_
    rintro e w4 ⟨rfl, b4⟩
    go_wp2
    go_ret
    exact ⟨rfl, below_trans (below_trans (below_trans (below_alloc_trans _ b1) b2) b3) b4⟩
  · obtain ⟨l1, l2⟩ := word_bounds s p a y g n o hg
    have hh := isHd_word s p a y g n o hg
    obtain ⟨e1, e2, e3, e4, e5, e6, e7⟩ := split_word s p a y g n o hg
    have U := unpack_yes (wordI s p a y g n o) (by omega) (by omega)
    unfold unV at U
    rw [e1, e2, e3, e4, e5, e6, e7] at U
    clear e1 e2 e3 e4 e5 e6 e7
    have P := pack_yes s p a y g n o
    have R := refWord_any s p a y g n o
    generalize wordI s p a y g n o = X at *
    have HU := Lib.hid U
    have HP := Lib.hid P
    have HR := Lib.hid R
    clear U P R
    go_enter Try.func3, Try.ntmps3
    go_wp2_with fail
    refine (HP.out _ hg).mono ?_
    rintro e w1 ⟨rfl, b1⟩
    have k1 := (Blk.new w _ _).keep b1
    obtain ⟨c0, c1, c2, c3, c4, c5, c6, _⟩ := k1.seven
    go_wp2_with fail
    refine (refGood_any _ _ _ _ _ _ _ _).mono ?_
    rintro e w2 ⟨rfl, b2⟩
    have k2 := k1.keep b2
    clear c0 c1 c2 c3 c4 c5 c6
    go_wp2_with fail
    refine (HU.out _ hh).mono ?_
    rintro e w3 ⟨rfl, b3⟩
    have k3 := k2.keep b3
    go_wp2_with fail
    refine (awake_any _).mono ?_
    rintro e w4 ⟨rfl, b4⟩
    have k4 := (k3.alloc _).keep b4
    have m4 := (Blk.new w3 _ _).keep b4
    obtain ⟨f0, f1, f2, f3, f4, f5, f6, _⟩ := k4.seven
    go_wp2_with fail
    refine (good_any _ _ _ _ _ _ _ _).mono ?_
    rintro e w5 ⟨rfl, b5⟩
    have k5 := k4.keep b5
    have m5 := m4.keep b5
    clear f0 f1 f2 f3 f4 f5 f6
    obtain ⟨f0, f1, f2, f3, f4, f5, f6, _⟩ := k5.seven
    go_wp2_with fail
    refine (HR.out _ hg).mono ?_
    rintro e w6 ⟨rfl, b6⟩
    clear f0 f1 f2 f3 f4 f5 f6
    obtain ⟨f0, f1, f2, f3, f4, f5, f6, _⟩ := (k5.keep b6).seven
    obtain ⟨c0, c1, c2, c3, c4, c5, c6, _⟩ := (m5.keep b6).seven
    go_wp2
    go_ret
    exact ⟨rfl, below_trans (below_trans (below_trans (below_trans (below_trans (below_alloc_trans _ b1) b2) b3) (below_alloc_trans _ b4)) b5) b6⟩

set_option maxHeartbeats 2000000 in
theorem headUnpacks_walk (x : Int) (h0 : 0 ≤ x) (h1 : x < 18446744073709551616) (w : World) :
    Calls Try.prog 4 #[.int .u64 x] w fun e w' => e = .returned (.bool true) ∧ Below w.heap.size w w' := by
  cases hg : isHd x
  · go_enter Try.func4, Try.ntmps4
    go_wp2_with fail
    refine (unpack_no x h0 h1 _ hg).mono ?_
    rintro e w1 ⟨rfl, b1⟩
    go_wp2_with fail
    refine (awake_any _).mono ?_
    rintro e w2 ⟨rfl, b2⟩
    obtain ⟨f0, f1, f2, f3, f4, f5, f6, _⟩ := ((Blk.new w1 _ _).keep b2).seven
    go_wp2
    go_ret
    exact ⟨rfl, below_trans b1 (below_alloc_trans _ b2)⟩
  · have hg' := hg
    simp only [isHd, Bool.and_eq_true, beq_iff_eq] at hg'
    have HW := Lib.hid hg'.2
    have gd := hg'.1
    clear hg'
    go_enter Try.func4, Try.ntmps4
    go_wp2_with fail
    refine (unpack_yes x h0 h1 _ hg).mono ?_
    rintro e w1 ⟨rfl, b1⟩
    go_wp2_with fail
    refine (awake_any _).mono ?_
    rintro e w2 ⟨rfl, b2⟩
    have k2 := (Blk.new w1 _ _).keep b2
    obtain ⟨f0, f1, f2, f3, f4, f5, f6, _⟩ := k2.seven
    go_wp2_with fail
    refine (refGood_any _ _ _ _ _ _ _ _).mono ?_
    rintro e w3 ⟨rfl, b3⟩
    clear f0 f1 f2 f3 f4 f5 f6
    obtain ⟨f0, f1, f2, f3, f4, f5, f6, _⟩ := (k2.keep b3).seven
    go_wp2_with fail
    refine (refWord_any _ _ _ _ _ _ _ _ gd).mono ?_
    rintro e w4 ⟨rfl, b4⟩
    rw [HW.out]
    go_wp2
    go_ret
    exact ⟨rfl, below_trans (below_trans (below_trans b1 (below_alloc_trans _ b2)) b3) b4⟩
end Go.Proofs.Ytjfijpbmbdjmjaa

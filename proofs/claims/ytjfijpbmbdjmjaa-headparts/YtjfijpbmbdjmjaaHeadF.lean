/- The walk of the statement HeadUnlike. -/
import Derived.Test.YtjfijpbmbdjmjaaHeadE
namespace Go.Proofs.Ytjfijpbmbdjmjaa
open Go.RowKit

theorem word_inj (s p a y : Int) (g n o : Bool) (s' p' a' y' : Int) (g' n' o' : Bool) (h : goodB s p a y = true) (h' : goodB s' p' a' y' = true) :
    (wordI s p a y g n o == wordI s' p' a' y' g' n' o') = true ↔ s = s' ∧ p = p' ∧ a = a' ∧ y = y' ∧ g = g' ∧ n = n' ∧ o = o' := by
  rw [beq_iff_eq]
  constructor
  · intro e
    obtain ⟨a1, a2, a3, a4, a5, a6, a7⟩ := split_word s p a y g n o h
    obtain ⟨b1, b2, b3, b4, b5, b6, b7⟩ := split_word s' p' a' y' g' n' o' h'
    rw [e] at a1 a2 a3 a4 a5 a6 a7
    exact ⟨a1.symm.trans b1, a2.symm.trans b2, a3.symm.trans b3, a4.symm.trans b4, a5.symm.trans b5, a6.symm.trans b6, a7.symm.trans b7⟩
  · rintro ⟨rfl, rfl, rfl, rfl, rfl, rfl, rfl⟩
    rfl

theorem ret_bool {a b : Bool} (h : a = b) : Ending.returned (.bool a) = .returned (.bool b) := by rw [h]

set_option maxHeartbeats 2000000 in
theorem headUnlike_walk (s p a y : Int) (g n o : Bool) (s' p' a' y' : Int) (g' n' o' : Bool) (w : World) :
    Calls Try.prog 5 #[hdV s p a y g n o, hdV s' p' a' y' g' n' o'] w fun e w' => e = .returned (.bool true) ∧ Below w.heap.size w w' := by
  cases hg : goodB s p a y
  · have HQ : ∃ Y b, ∀ w, Calls Try.prog 8 #[hdV s' p' a' y' g' n' o'] w fun e w' => e = .returned (.tuple #[.int .u64 Y, .bool b]) ∧ Below w.heap.size w w' := by
      cases hg' : goodB s' p' a' y'
      · exact ⟨_, _, fun w => pack_no _ _ _ _ _ _ _ w hg'⟩
      · exact ⟨_, _, fun w => pack_yes _ _ _ _ _ _ _ w hg'⟩
    obtain ⟨Y, b, HQ0⟩ := HQ
    have HQ := Lib.hid HQ0
    clear HQ0
    go_enter Try.func5, Try.ntmps5
    go_wp2_with fail
    refine (pack_no _ _ _ _ _ _ _ _ hg).mono ?_
    rintro e w1 ⟨rfl, b1⟩
    have m1 := (Blk.new (w.alloc _) _ _).keep b1
    rw [show (w.alloc (.cells #[.int .i64 s, .int .i64 p, .int .i64 a, .int .i64 y, .bool g, .bool n, .bool o] 23)).heap.size = w.heap.size + 1 from by simp] at m1
    obtain ⟨c0, c1, c2, c3, c4, c5, c6, _⟩ := m1.seven
    go_wp2_with fail
    refine (HQ.out _).mono ?_
    rintro e w2 ⟨rfl, b2⟩
    go_wp2_with fail
    refine (awake_any _).mono ?_
    rintro e w3 ⟨rfl, b3⟩
    go_wp2
    go_ret
    exact ⟨rfl, below_trans (below_trans (below_alloc_trans _ (below_alloc_trans _ b1)) b2) b3⟩
  cases hg' : goodB s' p' a' y'
  · go_enter Try.func5, Try.ntmps5
    go_wp2_with fail
    refine (pack_yes _ _ _ _ _ _ _ _ hg).mono ?_
    rintro e w1 ⟨rfl, b1⟩
    have m1 := (Blk.new (w.alloc _) _ _).keep b1
    rw [show (w.alloc (.cells #[.int .i64 s, .int .i64 p, .int .i64 a, .int .i64 y, .bool g, .bool n, .bool o] 23)).heap.size = w.heap.size + 1 from by simp] at m1
    obtain ⟨c0, c1, c2, c3, c4, c5, c6, _⟩ := m1.seven
    go_wp2_with fail
    refine (pack_no _ _ _ _ _ _ _ _ hg').mono ?_
    rintro e w2 ⟨rfl, b2⟩
    go_wp2_with fail
    refine (awake_any _).mono ?_
    rintro e w3 ⟨rfl, b3⟩
    go_wp2
    go_ret
    exact ⟨rfl, below_trans (below_trans (below_alloc_trans _ (below_alloc_trans _ b1)) b2) b3⟩
  have HE := Lib.hid (word_inj s p a y g n o s' p' a' y' g' n' o' hg hg')
  have P := pack_yes s p a y g n o
  have Q := pack_yes s' p' a' y' g' n' o'
  generalize wordI s p a y g n o = X at *
  generalize wordI s' p' a' y' g' n' o' = Y at *
  have HP := Lib.hid P
  have HQ := Lib.hid Q
  clear P Q
  go_enter Try.func5, Try.ntmps5
  go_wp2_with fail
  refine (HP.out _ hg).mono ?_
  rintro e w1 ⟨rfl, b1⟩
  have k1 := ((Blk.new w _ _).alloc _).keep b1
  have m1 := (Blk.new (w.alloc _) _ _).keep b1
  rw [show (w.alloc (.cells #[.int .i64 s, .int .i64 p, .int .i64 a, .int .i64 y, .bool g, .bool n, .bool o] 23)).heap.size = w.heap.size + 1 from by simp] at m1
  obtain ⟨c0, c1, c2, c3, c4, c5, c6, _⟩ := m1.seven
  go_wp2_with fail
  refine (HQ.out _ hg').mono ?_
  rintro e w2 ⟨rfl, b2⟩
  have k2 := k1.keep b2
  have m2 := m1.keep b2
  clear c0 c1 c2 c3 c4 c5 c6
  go_wp2_with fail
  refine (awake_any _).mono ?_
  rintro e w3 ⟨rfl, b3⟩
  obtain ⟨f0, f1, f2, f3, f4, f5, f6, _⟩ := (k2.keep b3).seven
  obtain ⟨c0, c1, c2, c3, c4, c5, c6, _⟩ := (m2.keep b3).seven
  clear k1 k2 m1 m2
  go_wp2
  all_goals
    have HE := HE.out
    clear HP HQ
    go_ret
    refine ⟨ret_bool ?_, below_trans (below_trans (below_alloc_trans _ (below_alloc_trans _ b1)) b2) b3⟩
    clear b1 b2 b3 c0 c1 c2 c3 c4 c5 c6 f0 f1 f2 f3 f4 f5 f6
    revert HE
    cases (X == Y) <;> simp_all
end Go.Proofs.Ytjfijpbmbdjmjaa

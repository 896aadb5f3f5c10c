/- Contracts of the document's Good and Word, and of the fixed fact (awake). -/
import Derived.Test.YtjfijpbmbdjmjaaHeadC
namespace Go.Proofs.Ytjfijpbmbdjmjaa
open Go.RowKit

set_option maxHeartbeats 2000000 in
theorem refGood_any (s p a y : Int) (g n o : Bool) (w : World) :
    Calls Try.prog 9 #[hdV s p a y g n o] w fun e w' => e = .returned (.bool (goodB s p a y)) ∧ Below w.heap.size w w' := by
  by_cases h1 : s < 0
  · have e : goodB s p a y = false := by rw [Bool.eq_false_iff]; intro h; have := (goodB_iff ..).1 h; omega
    rw [e]; clear e
    go_enter Try.func9, Try.ntmps9
    go_wp2
    go_ret
    exact ⟨rfl, (Below.refl _ _).alloc (Nat.le_refl _) _⟩
  by_cases h2 : 64 < s
  · have e : goodB s p a y = false := by rw [Bool.eq_false_iff]; intro h; have := (goodB_iff ..).1 h; omega
    rw [e]; clear e
    go_enter Try.func9, Try.ntmps9
    go_wp2
    go_ret
    exact ⟨rfl, (Below.refl _ _).alloc (Nat.le_refl _) _⟩
  by_cases h3 : p < 0
  · have e : goodB s p a y = false := by rw [Bool.eq_false_iff]; intro h; have := (goodB_iff ..).1 h; omega
    rw [e]; clear e
    go_enter Try.func9, Try.ntmps9
    go_wp2
    go_ret
    exact ⟨rfl, (Below.refl _ _).alloc (Nat.le_refl _) _⟩
  by_cases h4 : s < p
  · have e : goodB s p a y = false := by rw [Bool.eq_false_iff]; intro h; have := (goodB_iff ..).1 h; omega
    rw [e]; clear e
    go_enter Try.func9, Try.ntmps9
    go_wp2
    go_ret
    exact ⟨rfl, (Below.refl _ _).alloc (Nat.le_refl _) _⟩
  by_cases h5 : a < 0
  · have e : goodB s p a y = false := by rw [Bool.eq_false_iff]; intro h; have := (goodB_iff ..).1 h; omega
    rw [e]; clear e
    go_enter Try.func9, Try.ntmps9
    go_wp2
    go_ret
    exact ⟨rfl, (Below.refl _ _).alloc (Nat.le_refl _) _⟩
  by_cases h6 : 7 < a
  · have e : goodB s p a y = false := by rw [Bool.eq_false_iff]; intro h; have := (goodB_iff ..).1 h; omega
    rw [e]; clear e
    go_enter Try.func9, Try.ntmps9
    go_wp2
    go_ret
    exact ⟨rfl, (Below.refl _ _).alloc (Nat.le_refl _) _⟩
  by_cases h7 : y < 0
  · have e : goodB s p a y = false := by rw [Bool.eq_false_iff]; intro h; have := (goodB_iff ..).1 h; omega
    rw [e]; clear e
    go_enter Try.func9, Try.ntmps9
    go_wp2
    go_ret
    exact ⟨rfl, (Below.refl _ _).alloc (Nat.le_refl _) _⟩
  by_cases h8 : 1 < y
  · have e : goodB s p a y = false := by rw [Bool.eq_false_iff]; intro h; have := (goodB_iff ..).1 h; omega
    rw [e]; clear e
    have hd : decide (y ≤ 1) = false := by rw [decide_eq_false_iff_not]; omega
    go_enter Try.func9, Try.ntmps9
    go_wp2
    go_ret
    exact ⟨rfl, (Below.refl _ _).alloc (Nat.le_refl _) _⟩
  · have e : goodB s p a y = true := (goodB_iff ..).2 (by omega)
    rw [e]; clear e
    go_enter Try.func9, Try.ntmps9
    go_wp2
    go_ret
    exact ⟨rfl, (Below.refl _ _).alloc (Nat.le_refl _) _⟩

theorem ret_int {k : IntKind} {a b : Int} (h : a = b) : Ending.returned (.int k a) = .returned (.int k b) := by rw [h]

set_option maxHeartbeats 2000000 in
theorem refWord_any (s p a y : Int) (g n o : Bool) (w : World) (h : goodB s p a y = true) :
    Calls Try.prog 13 #[hdV s p a y g n o] w fun e w' => e = .returned (.int .u64 (wordI s p a y g n o)) ∧ Below w.heap.size w w' := by
  obtain ⟨s0, s1, p0, p1, a0, a1, y0, y1⟩ := (goodB_iff ..).1 h
  clear h
  unfold wordI
  cases g <;> cases n <;> cases o
  all_goals
    go_enter Try.func13, Try.ntmps13
    go_wp2
    go_ret
    exact ⟨ret_int (by simp only [flagI, if_true, if_false, Bool.false_eq_true]; omega), (Below.refl _ _).alloc (Nat.le_refl _) _⟩

set_option maxHeartbeats 2000000 in
theorem awake_any (w : World) :
    Calls Try.prog 10 #[] w fun e w' => e = .returned (.bool true) ∧ Below w.heap.size w w' := by
  have g1 : goodB 3 1 2 1 = true := by decide
  have g2 : goodB 0 1 0 0 = false := by decide
  have ew : wordI 3 1 2 1 false false true = 27496380694531 := by simp [wordI, flagI]
  have hh : isHd 27496380694531 = true := by rw [← ew]; exact isHd_word _ _ _ _ _ _ _ g1
  obtain ⟨e1, e2, e3, e4, e5, e6, e7⟩ := split_word 3 1 2 1 false false true g1
  rw [ew] at e1 e2 e3 e4 e5 e6 e7
  have P := pack_yes 3 1 2 1 false false true
  rw [ew] at P
  have HP := Lib.hid P
  have U := unpack_yes 27496380694531 (by simp) (by simp)
  unfold unV at U
  rw [e1, e2, e3, e4, e5, e6, e7] at U
  have HU := Lib.hid U
  clear P U e1 e2 e3 e4 e5 e6 e7 ew
  have G1 := Lib.hid g1
  have G2 := Lib.hid g2
  have HH := Lib.hid hh
  clear g1 g2 hh
  go_enter Try.func10, Try.ntmps10
  go_wp2_with fail
  refine (HP.out _ G1.out).mono ?_
  rintro e w1 ⟨rfl, b1⟩
  go_wp2_with fail
  refine (HU.out _ HH.out).mono ?_
  rintro e w2 ⟨rfl, b2⟩
  go_wp2_with fail
  refine (pack_no _ _ _ _ _ _ _ _ G2.out).mono ?_
  rintro e w3 ⟨rfl, b3⟩
  obtain ⟨c0, c1, c2, c3, c4, c5, c6, fz⟩ := ((Blk.new w2 _ _).keep b3).seven
  go_wp2
  go_ret
  exact ⟨rfl, below_trans (below_trans b1 b2) (below_alloc_trans _ b3)⟩
end Go.Proofs.Ytjfijpbmbdjmjaa

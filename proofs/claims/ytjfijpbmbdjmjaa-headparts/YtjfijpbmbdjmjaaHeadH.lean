/- The walk of the statement HeadParts. -/
import Derived.Test.YtjfijpbmbdjmjaaHeadG
namespace Go.Proofs.Ytjfijpbmbdjmjaa
open Go.RowKit

theorem word_low (s p a y : Int) (g n o : Bool) (h : goodB s p a y = true) : bits .and .u64 (wordI s p a y g n o) 4294967295 = s + 65536 * p := by
  obtain ⟨l1, l2⟩ := word_bounds s p a y g n o h
  obtain ⟨s0, s1, p0, p1, a0, a1, y0, y1⟩ := (goodB_iff ..).1 h
  rw [and_mask 32 4294967295 4294967296 (by simp) (by simp) (by simp) _ (by omega) (by omega)]
  obtain ⟨G, G0, G1, eg⟩ := flagI_mul g 2199023255552
  obtain ⟨N, N0, N1, en⟩ := flagI_mul n 4398046511104
  obtain ⟨O, O0, O1, eo⟩ := flagI_mul o 8796093022208
  clear l1 l2 h
  unfold wordI
  rw [eg, en, eo]
  clear eg en eo
  omega

set_option maxHeartbeats 4000000 in
set_option maxRecDepth 100000 in
theorem headParts_walk (s p a y : Int) (g n o : Bool) (G N O : Bool) (k : Int) (k0 : 0 ≤ k) (k1 : k ≤ 255) (w : World) :
    Calls Try.prog 7 #[hdV s p a y g n o, .bool G, .bool N, .bool O, .int .u8 k] w fun e w' => e = .returned (.bool true) ∧ Below w.heap.size w w' := by
  cases hg : goodB s p a y
  · go_enter Try.func7, Try.ntmps7
    go_wp2_with fail
    refine (pack_no _ _ _ _ _ _ _ _ hg).mono ?_
    rintro e w1 ⟨rfl, b1⟩
    go_wp2_with fail
    refine (awake_any _).mono ?_
    rintro e w3 ⟨rfl, b3⟩
    go_wp2
    go_ret
    exact ⟨rfl, below_trans (below_alloc_trans _ b1) b3⟩
  have hk : goodB s p (k % 8) y = true := by
    rw [goodB_iff] at hg ⊢
    omega
  have q0 : 0 ≤ k % 8 := by omega
  have q1 : k % 8 ≤ 7 := by omega
  have P := pack_yes s p a y g n o
  have Q := pack_yes s p (k % 8) y G N O
  obtain ⟨l1, l2⟩ := word_bounds s p (k % 8) y G N O hk
  have hh := isHd_word s p (k % 8) y G N O hk
  obtain ⟨e1, e2, e3, e4, e5, e6, e7⟩ := split_word s p (k % 8) y G N O hk
  have U := unpack_yes (wordI s p (k % 8) y G N O) (by omega) (by omega)
  unfold unV at U
  rw [e1, e2, e3, e4, e5, e6, e7] at U
  clear e1 e2 e3 e4 e5 e6 e7
  have LX := word_low s p a y g n o hg
  have LY := word_low s p (k % 8) y G N O hk
  generalize wordI s p a y g n o = X at *
  generalize wordI s p (k % 8) y G N O = Y at *
  have HP := Lib.hid P
  have HQ := Lib.hid Q
  have HU := Lib.hid U
  clear P Q U l1 l2
  have HLX := Lib.hid LX
  have HLY := Lib.hid LY
  clear LX LY
  go_enter Try.func7, Try.ntmps7
  go_wp2_with fail
  refine (HP.out _ hg).mono ?_
  rintro e w1 ⟨rfl, b1⟩
  have m1 := (Blk.new w _ _).keep b1
  obtain ⟨c0, c1, c2, c3, c4, c5, c6, _⟩ := m1.seven
  go_wp2_with fail
  refine (HQ.out _ hk).mono ?_
  rintro e w2 ⟨rfl, b2⟩
  have m2 := (m1.alloc _).keep b2
  clear c0 c1 c2 c3 c4 c5 c6
  go_wp2_with fail
  refine (HU.out _ hh).mono ?_
  rintro e w3 ⟨rfl, b3⟩
  have m3 := m2.keep b3
  go_wp2_with fail
  refine (awake_any _).mono ?_
  rintro e w4 ⟨rfl, b4⟩
  obtain ⟨f0, f1, f2, f3, f4, f5, f6, _⟩ := ((m3.alloc _).keep b4).seven
  obtain ⟨c0, c1, c2, c3, c4, c5, c6, _⟩ := ((Blk.new w3 _ _).keep b4).seven
  have LX := HLX.out
  have LY := HLY.out
  clear m1 m2 m3 HP HQ HU
  go_wp2
  go_ret
  exact ⟨rfl, below_trans (below_trans (below_trans (below_alloc_trans _ b1) (below_alloc_trans _ b2)) b3) (below_alloc_trans _ b4)⟩
end Go.Proofs.Ytjfijpbmbdjmjaa

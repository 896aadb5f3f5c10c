/- filled; the fixed fact (awake). -/
import Derived.Test.YthhbamllnacklaaObjD
namespace Go.Proofs.Ythhbamllnacklaa
open Go.RowKit

/-- Words are words. -/
def U64 (ws : List Int) : Prop := ∀ x ∈ ws, 0 ≤ x ∧ x < 18446744073709551616

theorem U64.set {ws : List Int} (h : U64 ws) (i : Nat) {x : Int} (h0 : 0 ≤ x) (h1 : x < 18446744073709551616) : U64 (ws.set i x) := by
  intro y hy
  rcases List.mem_or_eq_of_mem_set hy with e | rfl
  · exact h y e
  · exact ⟨h0, h1⟩

theorem below_now {W w w' : World} {a b : Nat} {ws : List Int} (hb : Below W.heap.size W w) (t : Now a b ws w w') (ha : W.heap.size ≤ a) (hb' : W.heap.size ≤ b) : Below W.heap.size W w' :=
  Below.frm hb t.frm hb.size (fun k hk => by omega)

theorem wrap_small (x : Int) (h0 : 0 ≤ x) (h1 : x ≤ 9223372036854775807) : wrap64 x = x := by unfold wrap64; omega

theorem wrap_u64 (z : Int) : 0 ≤ IntKind.u64.wrap z ∧ IntKind.u64.wrap z < 18446744073709551616 := by
  have e : IntKind.u64.wrap z = z % 18446744073709551616 := rfl
  omega

set_option maxHeartbeats 4000000 in
set_option maxRecDepth 100000 in
theorem filled_any (n seed : Int) (n0 : 0 ≤ n) (n1 : n < 100) (s0 : 0 ≤ seed) (s1 : seed < 18446744073709551616) (w : World) :
    Calls Try.prog 8 #[.int .u8 n, .int .u64 seed] w fun e w' => ∃ ws g cap, e = .returned (.tuple #[arP (w.heap.size + 1), .slice (some ⟨g, 0, none⟩) ws.length cap]) ∧ (ws.length : Int) = n ∧ U64 ws ∧
      w.heap.size + 2 ≤ g ∧ Has w' (w.heap.size + 1) w.heap.size ws ∧ Row w' g cap ws ∧ Below w.heap.size w w' := by
  have hcl := Lib.hid (show (clampN n : Int) = n by unfold clampN; omega)
  go_enter Try.func8, Try.ntmps8
  go_wp2_with fail
  refine (new_any _ _).mono ?_
  rintro e w1 ⟨rfl, i1, b1⟩
  have HS : Hid (∃ ws, (ws.length : Int) = n ∧ U64 ws ∧ Has w1 (w.heap.size + 1) w.heap.size ws ∧ Below w.heap.size w w1) :=
    Lib.hid ⟨_, by rw [List.length_replicate]; exact hcl.out, fun x hx => by rw [List.eq_of_mem_replicate hx]; omega, ⟨_, i1⟩, b1⟩
  clear i1 b1
  go_wp2_with fail
  go_loopw [1, 7] (fun t1 t7 wr => ∃ x k : Int, 0 ≤ x ∧ x < 18446744073709551616 ∧ t1 = .int .u64 x ∧ 0 ≤ k ∧ k ≤ n ∧ t7 = .int .i64 k ∧ Hid (∃ ws, (ws.length : Int) = n ∧ U64 ws ∧ Has wr (w.heap.size + 1) w.heap.size ws ∧ Below w.heap.size w wr)) (fun _ t7 _ => (n - intOf t7).toNat)
  case atStart => exact ⟨seed, 0, s0, s1, rfl, by omega, n0, rfl, HS⟩
  case round =>
    clear HS
    obtain ⟨x, k, x0, x1, rfl, k0, k1, rfl, HS⟩ := hrel
    obtain ⟨ws, HW⟩ := HS.out
    have HW := Lib.hid HW
    by_cases hlt : k < n
    · obtain ⟨z, hz⟩ : ∃ z, x * 6364136223846793005 = z := ⟨_, rfl⟩
      go_wp2_with fail
      have hq := wrap_u64 (IntKind.u64.wrap z + 1442695040888963407)
      generalize IntKind.u64.wrap (IntKind.u64.wrap z + 1442695040888963407) = q at *
      obtain ⟨q0, q1⟩ := hq
      obtain ⟨c, hc⟩ := HW.out.2.2.1
      refine (store_at _ _ _ _ _ hc (by have := HW.out.1; omega) k q k0 (by have := HW.out.1; omega)).mono ?_
      rintro e w2 ⟨rfl, t⟩
      have HN : Hid (∃ ws, (ws.length : Int) = n ∧ U64 ws ∧ Has w2 (w.heap.size + 1) w.heap.size ws ∧ Below w.heap.size w w2) :=
        Lib.hid ⟨ws.set k.toNat q, by rw [List.length_set]; exact HW.out.1, HW.out.2.1.set _ q0 q1, t.now.is, below_now HW.out.2.2.2 t.now (by omega) (by omega)⟩
      clear hc t HW HS
      go_wp2
      go_roundw
      case rel => exact ⟨q, k + 1, q0, q1, rfl, by omega, by omega, rfl, HN⟩
      case measure => simp [intOf]; omega
    · obtain rfl : k = n := by omega
      go_wp2_with fail
      refine (words_any _ _ ws _ HW.out.2.2.1 (by have := HW.out.1; omega)).mono ?_
      rintro e w2 ⟨g, cap, rfl, hg, hr, hn⟩
      have HN := Lib.hid (And.intro (show w.heap.size + 2 ≤ g by have := HW.out.2.2.1.lt; omega) (And.intro hn.is (And.intro hr (below_now HW.out.2.2.2 hn (by omega) (by omega)))))
      clear hg hr hn
      go_wp2
      go_ret2
      exact ⟨ws, g, cap, rfl, HW.out.1, HW.out.2.1, HN.out⟩

set_option maxHeartbeats 2000000 in
set_option maxRecDepth 100000 in
theorem awake_any (w : World) : Calls Try.prog 11 #[] w fun e w' => e = .returned (.bool true) ∧ Below w.heap.size w w' := by
  have g1 := Lib.hid (show goodB 3 1 0 0 = true by decide)
  have g2 := Lib.hid (show goodB 3 1 1 0 = true by decide)
  have e1 := Lib.hid (show wordI 3 1 0 0 false false false = 17592186109955 by simp [wordI, flagI])
  have e2 := Lib.hid (show wordI 3 1 1 0 false false false = 17596481077251 by simp [wordI, flagI])
  have hh := Lib.hid (show isHd 17596481077251 = true from e2.out ▸ isHd_word _ _ _ _ _ _ _ g2.out)
  have hu := Lib.hid (show unV 17596481077251 = hdV 3 1 1 0 false false false by
    obtain ⟨f1, f2, f3, f4, f5, f6, f7⟩ := split_word 3 1 1 0 false false false g2.out
    rw [e2.out] at f1 f2 f3 f4 f5 f6 f7
    rw [unV, f1, f2, f3, f4, f5, f6, f7])
  go_enter Try.func11, Try.ntmps11
  go_wp2_with fail
  refine (new_any _ _).mono ?_
  rintro e w1 ⟨rfl, i1, b1⟩
  have S1 : Hid (Has w1 (w.heap.size + 1) w.heap.size (List.replicate 20 0) ∧ Below w.heap.size w w1) := Lib.hid ⟨⟨_, i1⟩, b1⟩
  clear i1 b1
  have S2 := Lib.hid (S1.out.1.alloc (.cells #[.int .i64 3, .int .i64 1, .int .i64 0, .int .i64 0, .bool false, .bool false, .bool false] 24))
  have B2 := Lib.hid (S1.out.2.alloc S1.out.2.size (.cells #[.int .i64 3, .int .i64 1, .int .i64 0, .int .i64 0, .bool false, .bool false, .bool false] 24))
  have K2 := Lib.hid (Blk.new w1 #[.int .i64 3, .int .i64 1, .int .i64 0, .int .i64 0, .bool false, .bool false, .bool false] 24)
  have hlt := Lib.hid S1.out.1.lt
  go_wp2_with fail
  refine (make_yes _ _ _ _ S2.out (by decide) 2 _ _ _ _ _ _ _ g1.out (by unfold Room; decide)).mono ?_
  rintro e w3 ⟨rfl, t3⟩
  have K3 := Lib.hid (t3.blk K2.out (by have := hlt.out; omega) (by have := hlt.out; omega))
  have B3 := Lib.hid (below_now B2.out t3 (by omega) (by omega))
  rw [e1.out] at t3
  have S3 : Hid (Has w3 (w.heap.size + 1) w.heap.size [0, 0, 17592186109955, 2, 0, 0, 0, 0, 0, 0, 0, 0, 0, 0, 0, 0, 0, 0, 0, 0]) := Lib.hid t3.is
  clear t3 K2 B2 S2
  go_wp2_with fail
  refine (setField_yes _ _ _ _ S3.out (by decide) 2 1 77 (by decide) (by decide) (by unfold InW; decide)).mono ?_
  rintro e w4 ⟨rfl, t4⟩
  have K4 := Lib.hid (t4.blk K3.out (by have := hlt.out; omega) (by have := hlt.out; omega))
  have B4 := Lib.hid (below_now B3.out t4 (by omega) (by omega))
  have S4 : Hid (Has w4 (w.heap.size + 1) w.heap.size [0, 0, 17592186109955, 2, 0, 77, 0, 0, 0, 0, 0, 0, 0, 0, 0, 0, 0, 0, 0, 0]) := Lib.hid t4.is
  clear t4 K3 B3 S3
  go_wp2_with fail
  refine (move_yes _ _ _ _ S4.out (by decide) 2 10 _ _ _ _ _ _ _ g2.out (by unfold Room; decide) (by unfold Room; decide)).mono ?_
  rintro e w5 ⟨rfl, t5⟩
  have K5 := Lib.hid (t5.blk K4.out (by have := hlt.out; omega) (by have := hlt.out; omega))
  have B5 := Lib.hid (below_now B4.out t5 (by omega) (by omega))
  rw [e2.out] at t5
  have S5 : Hid (Has w5 (w.heap.size + 1) w.heap.size [0, 0, 17592186109955, 10, 0, 77, 0, 0, 0, 0, 17596481077251, 10, 0, 77, 0, 0, 0, 0, 0, 0]) := Lib.hid t5.is
  clear t5 K4 B4 S4
  go_wp2_with fail
  refine (field_yes _ _ _ _ S5.out (by decide) 10 1 77 (by decide) (by decide) (by unfold InW; decide) rfl).mono ?_
  rintro e w6 ⟨rfl, t6⟩
  have K6 := Lib.hid (t6.blk K5.out (by have := hlt.out; omega) (by have := hlt.out; omega))
  have B6 := Lib.hid (below_now B5.out t6 (by omega) (by omega))
  have S6 := Lib.hid t6.is
  clear t6 K5 B5 S5
  go_wp2_with fail
  refine (way_yes _ _ _ _ S6.out (by decide) 2 10 (by unfold InW; decide) rfl).mono ?_
  rintro e w7 ⟨he, t7⟩
  rw [wrap_small 10 (by decide) (by decide)] at he
  subst he
  have K7 := Lib.hid (t7.blk K6.out (by have := hlt.out; omega) (by have := hlt.out; omega))
  have B7 := Lib.hid (below_now B6.out t7 (by omega) (by omega))
  have S7 := Lib.hid t7.is
  clear t7 K6 B6 S6
  go_wp2_with fail
  refine (head_yes _ _ _ _ S7.out (by decide) 10 17596481077251 (by unfold InW; decide) rfl (by decide) (by decide) hh.out).mono ?_
  rintro e w8 ⟨he, t8⟩
  rw [hu.out] at he
  subst he
  have K8 := Lib.hid (t8.blk K7.out (by have := hlt.out; omega) (by have := hlt.out; omega))
  have B8 := Lib.hid (below_now B7.out t8 (by omega) (by omega))
  clear t8 K7 B7 S7
  have k9 := K8.out.alloc (.cells #[.int .i64 3, .int .i64 1, .int .i64 1, .int .i64 0, .bool false, .bool false, .bool false] 24)
  obtain ⟨c0, c1, c2, c3, c4, c5, c6, fz⟩ := k9.seven
  have K9 := Lib.hid k9
  clear k9
  go_wp2_with fail
  refine (oWords_any _ _ _ _ _ _ _ _ (by decide) (by decide)).mono ?_
  rintro e w9 ⟨rfl, b9⟩
  have B9 := Lib.hid (below_trans B8.out (below_alloc_trans _ b9))
  obtain ⟨c0, c1, c2, c3, c4, c5, c6, fz⟩ := (K9.out.keep b9).seven
  clear b9
  go_wp2_with fail
  refine (refGood_any _ _ _ _ _ _ _ _).mono ?_
  rintro e w10 ⟨rfl, b10⟩
  have B10 := Lib.hid (below_trans B9.out b10)
  clear b10
  go_wp2
  go_ret
  exact ⟨rfl, B10.out⟩
end Go.Proofs.Ythhbamllnacklaa

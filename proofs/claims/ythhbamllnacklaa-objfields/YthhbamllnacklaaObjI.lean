/- The walk of ObjFields. -/
import Derived.Test.YthhbamllnacklaaObjF
namespace Go.Proofs.Ythhbamllnacklaa
open Go.RowKit

theorem ses_filled0 {w w1 : World} {ws : List Int} {g cap : Nat} (h1 : w.heap.size + 2 ≤ g) (h2 : Has w1 (w.heap.size + 1) w.heap.size ws) (h3 : Row w1 g cap ws) (h4 : Below w.heap.size w w1) :
    ∃ a b cur, a = w.heap.size + 1 ∧ RowC cur cap ws ∧ Ses w w1 a b ws [(g, cur, 22)] := by
  obtain ⟨cur, hB, hC⟩ := h3.parts
  refine ⟨_, _, cur, rfl, hC, h2, h4, ⟨by omega, by omega⟩, fun r hr => ?_⟩
  obtain rfl := List.mem_singleton.1 hr
  exact ⟨hB, by simp only []; omega, by simp only []; omega⟩

theorem wrap_back (z : Int) (h0 : 0 ≤ z) (h1 : z < 18446744073709551616) : IntKind.u64.wrap (wrap64 z) = z := by
  have e : ∀ q, IntKind.u64.wrap q = q % 18446744073709551616 := fun _ => rfl
  rw [e]
  unfold wrap64
  omega

set_option maxHeartbeats 16000000 in
set_option maxRecDepth 100000 in
theorem objFields_ok (n seed at_ k x : Int) (n0 : 0 ≤ n) (n1 : n ≤ 255) (x0 : 0 ≤ seed) (x1 : seed ≤ 18446744073709551615) (a0 : -9223372036854775808 ≤ at_) (a1 : at_ ≤ 9223372036854775807) (k0 : -9223372036854775808 ≤ k) (k1 : k ≤ 9223372036854775807) (v0 : 0 ≤ x) (v1 : x ≤ 18446744073709551615) (w : World) (hok : 0 ≤ at_ ∧ 0 ≤ k ∧ k < 64 ∧ at_ + 2 + k < n % 100) :
    Calls Try.prog 4 #[.int .u8 n, .int .u64 seed, .int .i64 at_, .int .i64 k, .int .u64 x] w fun e w' => e = .returned (.bool true) ∧ Below w.heap.size w w' := by
  obtain ⟨N, hN⟩ : ∃ N, n % 100 = N := ⟨_, rfl⟩
  rw [hN] at hok
  have HOK := Lib.hid hok
  clear hok
  have m0 : 0 ≤ N := by omega
  have m1 : N < 100 := by omega
  obtain ⟨i0, hi, hz, hs, hby⟩ := info_parts info_u64
  have HI0 := Lib.hid (And.intro hi (And.intro hz (And.intro hs hby)))
  clear hi hz hs hby
  go_enter Try.func4, Try.ntmps4
  go_wp2_with fail
  try rw [hN]
  refine (filled_any N seed m0 m1 x0 (by omega) _).mono ?_
  rintro e w1 ⟨ws, g1, cap1, rfl, hL, hU, h1, h2, h3, h4⟩
  obtain ⟨a, b, cur, ea, RC0, S0⟩ := ses_filled0 h1 h2 h3 h4
  have S := Lib.hid S0
  have RC := Lib.hid RC0
  have HU := Lib.hid hU
  rw [← ea]
  clear h1 h2 h3 h4 ea hU hN n0 n1 x0 x1 S0 RC0
  obtain rfl : N = ws.length := hL.symm
  have hl : ws.length < 100 := by omega
  clear hL m1
  have hok := HOK.out
  clear HOK
  obtain ⟨o0, o1, o2, o3⟩ := hok
  obtain ⟨A, rfl⟩ := Int.eq_ofNat_of_zero_le o0
  obtain ⟨K, rfl⟩ := Int.eq_ofNat_of_zero_le o1
  obtain ⟨y, hy⟩ : ∃ y, ws[A + 2 + K]? = some y := ⟨_, List.getElem?_eq_getElem (by omega)⟩
  have HY := Lib.hid hy
  have HI : Hid (InW ws.length A (2 + K)) := Lib.hid ⟨by omega, by omega⟩
  have et : ((A : Int) + (2 + K)).toNat = A + 2 + K := by omega
  have ET := Lib.hid et
  clear hy et a0 a1 k0 k1
  go_wp2_with fail
  refine (field_yes _ _ _ _ S.out.has (by omega) A K y (by omega) o2 HI.out (by rw [ET.out]; exact HY.out)).mono ?_
  rintro e w2 ⟨rfl, t2⟩
  have S := Lib.hid (S.out.step t2)
  clear t2
  go_wp2_with fail
  refine (setField_yes _ _ _ _ S.out.has (by omega) A K x (by omega) o2 HI.out).mono ?_
  rintro e w3 ⟨rfl, t3⟩
  have S := Lib.hid (S.out.step t3)
  rw [ET.out] at S
  clear t3
  have S1 := Lib.hid (S.out.alloc (.cells #[] 22))
  have O1 : Hid ((w3.alloc (.cells #[] 22)).ownsRow w.heap.size 22 1 (.slice (some ⟨w3.heap.size, 0, none⟩) 0 0) 0 []) := Lib.hid ((row_nil w3).own (base := w.heap.size) S.out.old.size)
  have X1 := Lib.hid (RC.out.row (S1.out.blk _ (List.mem_cons_self ..)).1)
  go_wp2_with (first
    | (at_builtin; (refine wpList_append_own_at _ rfl _ _ 26 rfl w.heap.size 22 i0 (.int .u64 0) 1 8 Try.underlying26 HI0.out.1 HI0.out.2.1 HI0.out.2.2.1 HI0.out.2.2.2 rfl (by decide) _ _ _ rfl O1.out ⟨g1, 0, none⟩ ws.length cap1 (vals ws) rfl (by simp [vals]) X1.out.news (vals_one ws) (by unfold maxLen; omega) (by omega) ?c5 ?_))
    | fail)
  case c5 => exact S1.out.old.size
  intro v1 w4 hown hgrow hne hob
  obtain ⟨g2, cap2, rfl, T0⟩ := S.out.copied hown rfl hgrow hne hob
  have T := Lib.hid T0
  clear hown hgrow hne hob T0 S S1 O1 X1
  have q1 := (RC.out.row (T.out.1.blk _ (List.mem_cons_self ..)).1).at_ HY.out
  have q2 := T.out.2.1.at_ HY.out
  have q3 := T.out.2.1.frozen (A + 2 + K)
  have T := Lib.hid (T.out.set (A + 2 + K) x)
  have HL := Lib.hid (show (ws.set (A + 2 + K) x).length = ws.length from List.length_set ..)
  have HVU := Lib.hid (HU.out.set (A + 2 + K) v0 (by omega))
  generalize ws.set (A + 2 + K) x = vs at *
  have hlen := HL.out
  obtain ⟨z, hz⟩ : ∃ z, vs[A + 1]? = some z := ⟨_, List.getElem?_eq_getElem (by omega)⟩
  have zb := HVU.out z (List.mem_of_getElem? hz)
  have zw := wrap_back z zb.1 zb.2
  have HZ := Lib.hid hz
  clear hz zb hlen
  go_wp2_with fail
  refine (way_yes _ _ _ _ T.out.1.has (by rw [HL.out]; omega) A z ⟨by omega, by rw [HL.out]; omega⟩ (by rw [show ((A : Int) + 1).toNat = A + 1 by omega]; exact HZ.out)).mono ?_
  rintro e w6 ⟨rfl, t6⟩
  have T := Lib.hid (T.out.step t6)
  clear t6
  go_wp2_with fail
  refine (setWay_yes _ _ _ _ T.out.1.has (by rw [HL.out]; omega) A 5 (by omega) (by omega) ⟨by omega, by rw [HL.out]; omega⟩).mono ?_
  rintro e w7 ⟨rfl, t7⟩
  have T := Lib.hid (T.out.step t7)
  rw [show ((A : Int) + 1).toNat = A + 1 by omega] at T
  clear t7
  have y1 := T.out.2.1.at_ HZ.out
  have f1 := T.out.2.1.frozen (A + 1)
  have T := Lib.hid (T.out.set (A + 1) 5)
  have HV := Lib.hid (show (vs.set (A + 1) 5).length = ws.length by rw [List.length_set]; exact HL.out)
  generalize wrap64 z = yy at *
  go_wp2_with fail
  refine (awake_any _).mono ?_
  rintro e w8 ⟨rfl, b8⟩
  have T := Lib.hid (T.out.keep b8)
  clear b8
  go_wp2_with fail
  refine (words_any _ _ _ _ T.out.1.has (by rw [HV.out]; omega)).mono ?_
  rintro e w9 ⟨g3, cap3, rfl, hg3, R3, t9⟩
  have T := Lib.hid (T.out.step t9)
  have R3 := Lib.hid R3
  clear t9 hg3
  rw [HV.out]
  go_wp2_with fail
  refine (same_yes g3 cap3 g2 cap2 ws.length _ _ R3.out T.out.2.1 HV.out.symm (by omega)).mono ?_
  rintro e w10 ⟨rfl, b10⟩
  have T := Lib.hid (T.out.keep b10)
  clear b10 R3
  go_wp2
  go_ret
  exact ⟨rfl, T.out.1.old⟩

set_option maxHeartbeats 16000000 in
set_option maxRecDepth 100000 in
theorem objFields_mid0 (n seed at_ k x : Int) (n0 : 0 ≤ n) (n1 : n ≤ 255) (x0 : 0 ≤ seed) (x1 : seed ≤ 18446744073709551615) (a0 : -9223372036854775808 ≤ at_) (a1 : at_ ≤ 9223372036854775807) (k0 : -9223372036854775808 ≤ k) (k1 : k ≤ 9223372036854775807) (_ : 0 ≤ x) (_ : x ≤ 18446744073709551615) (w : World) (hok : (0 ≤ at_ ∧ at_ < n % 100 - 1) ∧ (k < 0)) :
    Calls Try.prog 4 #[.int .u8 n, .int .u64 seed, .int .i64 at_, .int .i64 k, .int .u64 x] w fun e w' => e = .returned (.bool true) ∧ Below w.heap.size w w' := by
  obtain ⟨N, hN⟩ : ∃ N, n % 100 = N := ⟨_, rfl⟩
  rw [hN] at hok
  have HOK := Lib.hid hok
  clear hok
  have m0 : 0 ≤ N := by omega
  have m1 : N < 100 := by omega
  obtain ⟨i0, hi, hz, hs, hby⟩ := info_parts info_u64
  have HI0 := Lib.hid (And.intro hi (And.intro hz (And.intro hs hby)))
  clear hi hz hs hby
  go_enter Try.func4, Try.ntmps4
  go_wp2_with fail
  try rw [hN]
  refine (filled_any N seed m0 m1 x0 (by omega) _).mono ?_
  rintro e w1 ⟨ws, g1, cap1, rfl, hL, hU, h1, h2, h3, h4⟩
  obtain ⟨a, b, cur, ea, RC0, S0⟩ := ses_filled0 h1 h2 h3 h4
  have S := Lib.hid S0
  have RC := Lib.hid RC0
  have HU := Lib.hid hU
  rw [← ea]
  clear h1 h2 h3 h4 ea hU hN n0 n1 x0 x1 S0 RC0
  obtain rfl : N = ws.length := hL.symm
  have hl : ws.length < 100 := by omega
  clear hL m1
  have hok := HOK.out
  clear HOK
  obtain ⟨⟨z0, z1⟩, hk⟩ := hok
  obtain ⟨A, rfl⟩ := Int.eq_ofNat_of_zero_le z0
  have HF := Lib.hid (show ¬ (0 ≤ k ∧ k < 64 ∧ InW ws.length A (2 + k)) by unfold InW; omega)
  go_wp2_with fail
  refine (field_no _ _ _ _ S.out.has (by omega) (A : Int) k HF.out).mono ?_
  rintro e w2 ⟨rfl, rfl⟩
  go_wp2_with fail
  refine (setField_no _ _ _ _ S.out.has (by omega) (A : Int) k x HF.out).mono ?_
  rintro e w2 ⟨rfl, rfl⟩
  have S1 := Lib.hid (S.out.alloc (.cells #[] 22))
  have O1 : Hid ((w1.alloc (.cells #[] 22)).ownsRow w.heap.size 22 1 (.slice (some ⟨w1.heap.size, 0, none⟩) 0 0) 0 []) := Lib.hid ((row_nil w1).own (base := w.heap.size) S.out.old.size)
  have X1 := Lib.hid (RC.out.row (S1.out.blk _ (List.mem_cons_self ..)).1)
  go_wp2_with (first
    | (at_builtin; (refine wpList_append_own_at _ rfl _ _ 26 rfl w.heap.size 22 i0 (.int .u64 0) 1 8 Try.underlying26 HI0.out.1 HI0.out.2.1 HI0.out.2.2.1 HI0.out.2.2.2 rfl (by decide) _ _ _ rfl O1.out ⟨g1, 0, none⟩ ws.length cap1 (vals ws) rfl (by simp [vals]) X1.out.news (vals_one ws) (by unfold maxLen; omega) (by omega) ?c5 ?_))
    | fail)
  case c5 => exact S1.out.old.size
  intro v1 w4 hown hgrow hne hob
  obtain ⟨g2, cap2, rfl, T0⟩ := S.out.copied hown rfl hgrow hne hob
  have T := Lib.hid T0
  clear hown hgrow hne hob T0 S S1 O1 X1
  have HVU := HU
  obtain ⟨z, hz⟩ : ∃ z, ws[A + 1]? = some z := ⟨_, List.getElem?_eq_getElem (by omega)⟩
  have zb := HVU.out z (List.mem_of_getElem? hz)
  have zw := wrap_back z zb.1 zb.2
  have HZ := Lib.hid hz
  clear hz zb
  go_wp2_with fail
  refine (way_yes _ _ _ _ T.out.1.has (by omega) A z ⟨by omega, by omega⟩ (by rw [show ((A : Int) + 1).toNat = A + 1 by omega]; exact HZ.out)).mono ?_
  rintro e w6 ⟨rfl, t6⟩
  have T := Lib.hid (T.out.step t6)
  clear t6
  go_wp2_with fail
  refine (setWay_yes _ _ _ _ T.out.1.has (by omega) A 5 (by omega) (by omega) ⟨by omega, by omega⟩).mono ?_
  rintro e w7 ⟨rfl, t7⟩
  have T := Lib.hid (T.out.step t7)
  rw [show ((A : Int) + 1).toNat = A + 1 by omega] at T
  clear t7
  have y1 := T.out.2.1.at_ HZ.out
  have f1 := T.out.2.1.frozen (A + 1)
  have T := Lib.hid (T.out.set (A + 1) 5)
  have HV := Lib.hid (show (ws.set (A + 1) 5).length = ws.length by rw [List.length_set])
  generalize wrap64 z = yy at *
  go_wp2_with fail
  refine (awake_any _).mono ?_
  rintro e w8 ⟨rfl, b8⟩
  have T := Lib.hid (T.out.keep b8)
  clear b8
  go_wp2_with fail
  refine (words_any _ _ _ _ T.out.1.has (by rw [HV.out]; omega)).mono ?_
  rintro e w9 ⟨g3, cap3, rfl, hg3, R3, t9⟩
  have T := Lib.hid (T.out.step t9)
  have R3 := Lib.hid R3
  clear t9 hg3
  rw [HV.out]
  go_wp2_with fail
  refine (same_yes g3 cap3 g2 cap2 ws.length _ _ R3.out T.out.2.1 HV.out.symm (by omega)).mono ?_
  rintro e w10 ⟨rfl, b10⟩
  have T := Lib.hid (T.out.keep b10)
  clear b10 R3
  go_wp2
  go_ret
  exact ⟨rfl, T.out.1.old⟩

set_option maxHeartbeats 16000000 in
set_option maxRecDepth 100000 in
theorem objFields_mid1 (n seed at_ k x : Int) (n0 : 0 ≤ n) (n1 : n ≤ 255) (x0 : 0 ≤ seed) (x1 : seed ≤ 18446744073709551615) (a0 : -9223372036854775808 ≤ at_) (a1 : at_ ≤ 9223372036854775807) (k0 : -9223372036854775808 ≤ k) (k1 : k ≤ 9223372036854775807) (_ : 0 ≤ x) (_ : x ≤ 18446744073709551615) (w : World) (hok : (0 ≤ at_ ∧ at_ < n % 100 - 1) ∧ (0 ≤ k ∧ 64 ≤ k)) :
    Calls Try.prog 4 #[.int .u8 n, .int .u64 seed, .int .i64 at_, .int .i64 k, .int .u64 x] w fun e w' => e = .returned (.bool true) ∧ Below w.heap.size w w' := by
  obtain ⟨N, hN⟩ : ∃ N, n % 100 = N := ⟨_, rfl⟩
  rw [hN] at hok
  have HOK := Lib.hid hok
  clear hok
  have m0 : 0 ≤ N := by omega
  have m1 : N < 100 := by omega
  obtain ⟨i0, hi, hz, hs, hby⟩ := info_parts info_u64
  have HI0 := Lib.hid (And.intro hi (And.intro hz (And.intro hs hby)))
  clear hi hz hs hby
  go_enter Try.func4, Try.ntmps4
  go_wp2_with fail
  try rw [hN]
  refine (filled_any N seed m0 m1 x0 (by omega) _).mono ?_
  rintro e w1 ⟨ws, g1, cap1, rfl, hL, hU, h1, h2, h3, h4⟩
  obtain ⟨a, b, cur, ea, RC0, S0⟩ := ses_filled0 h1 h2 h3 h4
  have S := Lib.hid S0
  have RC := Lib.hid RC0
  have HU := Lib.hid hU
  rw [← ea]
  clear h1 h2 h3 h4 ea hU hN n0 n1 x0 x1 S0 RC0
  obtain rfl : N = ws.length := hL.symm
  have hl : ws.length < 100 := by omega
  clear hL m1
  have hok := HOK.out
  clear HOK
  obtain ⟨⟨z0, z1⟩, hk⟩ := hok
  obtain ⟨A, rfl⟩ := Int.eq_ofNat_of_zero_le z0
  have HF := Lib.hid (show ¬ (0 ≤ k ∧ k < 64 ∧ InW ws.length A (2 + k)) by unfold InW; omega)
  obtain ⟨c0, c1⟩ := hk
  go_wp2_with fail
  refine (field_no _ _ _ _ S.out.has (by omega) (A : Int) k HF.out).mono ?_
  rintro e w2 ⟨rfl, rfl⟩
  go_wp2_with fail
  refine (setField_no _ _ _ _ S.out.has (by omega) (A : Int) k x HF.out).mono ?_
  rintro e w2 ⟨rfl, rfl⟩
  have S1 := Lib.hid (S.out.alloc (.cells #[] 22))
  have O1 : Hid ((w1.alloc (.cells #[] 22)).ownsRow w.heap.size 22 1 (.slice (some ⟨w1.heap.size, 0, none⟩) 0 0) 0 []) := Lib.hid ((row_nil w1).own (base := w.heap.size) S.out.old.size)
  have X1 := Lib.hid (RC.out.row (S1.out.blk _ (List.mem_cons_self ..)).1)
  go_wp2_with (first
    | (at_builtin; (refine wpList_append_own_at _ rfl _ _ 26 rfl w.heap.size 22 i0 (.int .u64 0) 1 8 Try.underlying26 HI0.out.1 HI0.out.2.1 HI0.out.2.2.1 HI0.out.2.2.2 rfl (by decide) _ _ _ rfl O1.out ⟨g1, 0, none⟩ ws.length cap1 (vals ws) rfl (by simp [vals]) X1.out.news (vals_one ws) (by unfold maxLen; omega) (by omega) ?c5 ?_))
    | fail)
  case c5 => exact S1.out.old.size
  intro v1 w4 hown hgrow hne hob
  obtain ⟨g2, cap2, rfl, T0⟩ := S.out.copied hown rfl hgrow hne hob
  have T := Lib.hid T0
  clear hown hgrow hne hob T0 S S1 O1 X1
  have HVU := HU
  obtain ⟨z, hz⟩ : ∃ z, ws[A + 1]? = some z := ⟨_, List.getElem?_eq_getElem (by omega)⟩
  have zb := HVU.out z (List.mem_of_getElem? hz)
  have zw := wrap_back z zb.1 zb.2
  have HZ := Lib.hid hz
  clear hz zb
  go_wp2_with fail
  refine (way_yes _ _ _ _ T.out.1.has (by omega) A z ⟨by omega, by omega⟩ (by rw [show ((A : Int) + 1).toNat = A + 1 by omega]; exact HZ.out)).mono ?_
  rintro e w6 ⟨rfl, t6⟩
  have T := Lib.hid (T.out.step t6)
  clear t6
  go_wp2_with fail
  refine (setWay_yes _ _ _ _ T.out.1.has (by omega) A 5 (by omega) (by omega) ⟨by omega, by omega⟩).mono ?_
  rintro e w7 ⟨rfl, t7⟩
  have T := Lib.hid (T.out.step t7)
  rw [show ((A : Int) + 1).toNat = A + 1 by omega] at T
  clear t7
  have y1 := T.out.2.1.at_ HZ.out
  have f1 := T.out.2.1.frozen (A + 1)
  have T := Lib.hid (T.out.set (A + 1) 5)
  have HV := Lib.hid (show (ws.set (A + 1) 5).length = ws.length by rw [List.length_set])
  generalize wrap64 z = yy at *
  go_wp2_with fail
  refine (awake_any _).mono ?_
  rintro e w8 ⟨rfl, b8⟩
  have T := Lib.hid (T.out.keep b8)
  clear b8
  go_wp2_with fail
  refine (words_any _ _ _ _ T.out.1.has (by rw [HV.out]; omega)).mono ?_
  rintro e w9 ⟨g3, cap3, rfl, hg3, R3, t9⟩
  have T := Lib.hid (T.out.step t9)
  have R3 := Lib.hid R3
  clear t9 hg3
  rw [HV.out]
  go_wp2_with fail
  refine (same_yes g3 cap3 g2 cap2 ws.length _ _ R3.out T.out.2.1 HV.out.symm (by omega)).mono ?_
  rintro e w10 ⟨rfl, b10⟩
  have T := Lib.hid (T.out.keep b10)
  clear b10 R3
  go_wp2
  go_ret
  exact ⟨rfl, T.out.1.old⟩

set_option maxHeartbeats 16000000 in
set_option maxRecDepth 100000 in
theorem objFields_mid2 (n seed at_ k x : Int) (n0 : 0 ≤ n) (n1 : n ≤ 255) (x0 : 0 ≤ seed) (x1 : seed ≤ 18446744073709551615) (a0 : -9223372036854775808 ≤ at_) (a1 : at_ ≤ 9223372036854775807) (k0 : -9223372036854775808 ≤ k) (k1 : k ≤ 9223372036854775807) (_ : 0 ≤ x) (_ : x ≤ 18446744073709551615) (w : World) (hok : (0 ≤ at_ ∧ at_ < n % 100 - 1) ∧ (0 ≤ k ∧ k < 64 ∧ n % 100 ≤ at_ + 2 + k)) :
    Calls Try.prog 4 #[.int .u8 n, .int .u64 seed, .int .i64 at_, .int .i64 k, .int .u64 x] w fun e w' => e = .returned (.bool true) ∧ Below w.heap.size w w' := by
  obtain ⟨N, hN⟩ : ∃ N, n % 100 = N := ⟨_, rfl⟩
  rw [hN] at hok
  have HOK := Lib.hid hok
  clear hok
  have m0 : 0 ≤ N := by omega
  have m1 : N < 100 := by omega
  obtain ⟨i0, hi, hz, hs, hby⟩ := info_parts info_u64
  have HI0 := Lib.hid (And.intro hi (And.intro hz (And.intro hs hby)))
  clear hi hz hs hby
  go_enter Try.func4, Try.ntmps4
  go_wp2_with fail
  try rw [hN]
  refine (filled_any N seed m0 m1 x0 (by omega) _).mono ?_
  rintro e w1 ⟨ws, g1, cap1, rfl, hL, hU, h1, h2, h3, h4⟩
  obtain ⟨a, b, cur, ea, RC0, S0⟩ := ses_filled0 h1 h2 h3 h4
  have S := Lib.hid S0
  have RC := Lib.hid RC0
  have HU := Lib.hid hU
  rw [← ea]
  clear h1 h2 h3 h4 ea hU hN n0 n1 x0 x1 S0 RC0
  obtain rfl : N = ws.length := hL.symm
  have hl : ws.length < 100 := by omega
  clear hL m1
  have hok := HOK.out
  clear HOK
  obtain ⟨⟨z0, z1⟩, hk⟩ := hok
  obtain ⟨A, rfl⟩ := Int.eq_ofNat_of_zero_le z0
  have HF := Lib.hid (show ¬ (0 ≤ k ∧ k < 64 ∧ InW ws.length A (2 + k)) by unfold InW; omega)
  obtain ⟨c0, c1, c2⟩ := hk
  go_wp2_with fail
  refine (field_no _ _ _ _ S.out.has (by omega) (A : Int) k HF.out).mono ?_
  rintro e w2 ⟨rfl, rfl⟩
  go_wp2_with fail
  refine (setField_no _ _ _ _ S.out.has (by omega) (A : Int) k x HF.out).mono ?_
  rintro e w2 ⟨rfl, rfl⟩
  have S1 := Lib.hid (S.out.alloc (.cells #[] 22))
  have O1 : Hid ((w1.alloc (.cells #[] 22)).ownsRow w.heap.size 22 1 (.slice (some ⟨w1.heap.size, 0, none⟩) 0 0) 0 []) := Lib.hid ((row_nil w1).own (base := w.heap.size) S.out.old.size)
  have X1 := Lib.hid (RC.out.row (S1.out.blk _ (List.mem_cons_self ..)).1)
  go_wp2_with (first
    | (at_builtin; (refine wpList_append_own_at _ rfl _ _ 26 rfl w.heap.size 22 i0 (.int .u64 0) 1 8 Try.underlying26 HI0.out.1 HI0.out.2.1 HI0.out.2.2.1 HI0.out.2.2.2 rfl (by decide) _ _ _ rfl O1.out ⟨g1, 0, none⟩ ws.length cap1 (vals ws) rfl (by simp [vals]) X1.out.news (vals_one ws) (by unfold maxLen; omega) (by omega) ?c5 ?_))
    | fail)
  case c5 => exact S1.out.old.size
  intro v1 w4 hown hgrow hne hob
  obtain ⟨g2, cap2, rfl, T0⟩ := S.out.copied hown rfl hgrow hne hob
  have T := Lib.hid T0
  clear hown hgrow hne hob T0 S S1 O1 X1
  have HVU := HU
  obtain ⟨z, hz⟩ : ∃ z, ws[A + 1]? = some z := ⟨_, List.getElem?_eq_getElem (by omega)⟩
  have zb := HVU.out z (List.mem_of_getElem? hz)
  have zw := wrap_back z zb.1 zb.2
  have HZ := Lib.hid hz
  clear hz zb
  go_wp2_with fail
  refine (way_yes _ _ _ _ T.out.1.has (by omega) A z ⟨by omega, by omega⟩ (by rw [show ((A : Int) + 1).toNat = A + 1 by omega]; exact HZ.out)).mono ?_
  rintro e w6 ⟨rfl, t6⟩
  have T := Lib.hid (T.out.step t6)
  clear t6
  go_wp2_with fail
  refine (setWay_yes _ _ _ _ T.out.1.has (by omega) A 5 (by omega) (by omega) ⟨by omega, by omega⟩).mono ?_
  rintro e w7 ⟨rfl, t7⟩
  have T := Lib.hid (T.out.step t7)
  rw [show ((A : Int) + 1).toNat = A + 1 by omega] at T
  clear t7
  have y1 := T.out.2.1.at_ HZ.out
  have f1 := T.out.2.1.frozen (A + 1)
  have T := Lib.hid (T.out.set (A + 1) 5)
  have HV := Lib.hid (show (ws.set (A + 1) 5).length = ws.length by rw [List.length_set])
  generalize wrap64 z = yy at *
  go_wp2_with fail
  refine (awake_any _).mono ?_
  rintro e w8 ⟨rfl, b8⟩
  have T := Lib.hid (T.out.keep b8)
  clear b8
  go_wp2_with fail
  refine (words_any _ _ _ _ T.out.1.has (by rw [HV.out]; omega)).mono ?_
  rintro e w9 ⟨g3, cap3, rfl, hg3, R3, t9⟩
  have T := Lib.hid (T.out.step t9)
  have R3 := Lib.hid R3
  clear t9 hg3
  rw [HV.out]
  go_wp2_with fail
  refine (same_yes g3 cap3 g2 cap2 ws.length _ _ R3.out T.out.2.1 HV.out.symm (by omega)).mono ?_
  rintro e w10 ⟨rfl, b10⟩
  have T := Lib.hid (T.out.keep b10)
  clear b10 R3
  go_wp2
  go_ret
  exact ⟨rfl, T.out.1.old⟩

set_option maxHeartbeats 16000000 in
set_option maxRecDepth 100000 in
theorem objFields_no0 (n seed at_ k x : Int) (n0 : 0 ≤ n) (n1 : n ≤ 255) (x0 : 0 ≤ seed) (x1 : seed ≤ 18446744073709551615) (a0 : -9223372036854775808 ≤ at_) (a1 : at_ ≤ 9223372036854775807) (_ : -9223372036854775808 ≤ k) (_ : k ≤ 9223372036854775807) (_ : 0 ≤ x) (_ : x ≤ 18446744073709551615) (w : World) (hok : (¬ (0 ≤ at_ ∧ at_ < n % 100 - 1)) ∧ (at_ < 0)) :
    Calls Try.prog 4 #[.int .u8 n, .int .u64 seed, .int .i64 at_, .int .i64 k, .int .u64 x] w fun e w' => e = .returned (.bool true) ∧ Below w.heap.size w w' := by
  obtain ⟨N, hN⟩ : ∃ N, n % 100 = N := ⟨_, rfl⟩
  rw [hN] at hok
  have HOK := Lib.hid hok
  clear hok
  have m0 : 0 ≤ N := by omega
  have m1 : N < 100 := by omega
  obtain ⟨i0, hi, hz, hs, hby⟩ := info_parts info_u64
  have HI0 := Lib.hid (And.intro hi (And.intro hz (And.intro hs hby)))
  clear hi hz hs hby
  go_enter Try.func4, Try.ntmps4
  go_wp2_with fail
  try rw [hN]
  refine (filled_any N seed m0 m1 x0 (by omega) _).mono ?_
  rintro e w1 ⟨ws, g1, cap1, rfl, hL, hU, h1, h2, h3, h4⟩
  obtain ⟨a, b, cur, ea, RC0, S0⟩ := ses_filled0 h1 h2 h3 h4
  have S := Lib.hid S0
  have RC := Lib.hid RC0
  have HU := Lib.hid hU
  rw [← ea]
  clear h1 h2 h3 h4 ea hU hN n0 n1 x0 x1 S0 RC0
  obtain rfl : N = ws.length := hL.symm
  have hl : ws.length < 100 := by omega
  clear hL m1
  have hok := HOK.out
  clear HOK
  obtain ⟨hf, hk⟩ := hok
  have HF := Lib.hid (show ¬ (0 ≤ k ∧ k < 64 ∧ InW ws.length at_ (2 + k)) by unfold InW; omega)
  have HW := Lib.hid (show ¬ InW ws.length at_ 1 by unfold InW; omega)
  clear hf
  go_wp2_with fail
  refine (field_no _ _ _ _ S.out.has (by omega) at_ k HF.out).mono ?_
  rintro e w2 ⟨rfl, rfl⟩
  go_wp2_with fail
  refine (setField_no _ _ _ _ S.out.has (by omega) at_ k x HF.out).mono ?_
  rintro e w2 ⟨rfl, rfl⟩
  have S1 := Lib.hid (S.out.alloc (.cells #[] 22))
  have O1 : Hid ((w1.alloc (.cells #[] 22)).ownsRow w.heap.size 22 1 (.slice (some ⟨w1.heap.size, 0, none⟩) 0 0) 0 []) := Lib.hid ((row_nil w1).own (base := w.heap.size) S.out.old.size)
  have X1 := Lib.hid (RC.out.row (S1.out.blk _ (List.mem_cons_self ..)).1)
  go_wp2_with (first
    | (at_builtin; (refine wpList_append_own_at _ rfl _ _ 26 rfl w.heap.size 22 i0 (.int .u64 0) 1 8 Try.underlying26 HI0.out.1 HI0.out.2.1 HI0.out.2.2.1 HI0.out.2.2.2 rfl (by decide) _ _ _ rfl O1.out ⟨g1, 0, none⟩ ws.length cap1 (vals ws) rfl (by simp [vals]) X1.out.news (vals_one ws) (by unfold maxLen; omega) (by omega) ?c5 ?_))
    | fail)
  case c5 => exact S1.out.old.size
  intro v1 w4 hown hgrow hne hob
  obtain ⟨g2, cap2, rfl, T0⟩ := S.out.copied hown rfl hgrow hne hob
  have T := Lib.hid T0
  clear hown hgrow hne hob T0 S S1 O1 X1
  go_wp2_with fail
  refine (way_no _ _ _ _ T.out.1.has (by omega) at_ HW.out).mono ?_
  rintro e w6 ⟨rfl, rfl⟩
  go_wp2_with fail
  refine (setWay_no _ _ _ _ T.out.1.has (by omega) at_ 5 (by omega) (by omega) HW.out).mono ?_
  rintro e w6 ⟨rfl, rfl⟩
  go_wp2_with fail
  refine (awake_any _).mono ?_
  rintro e w8 ⟨rfl, b8⟩
  have T := Lib.hid (T.out.keep b8)
  clear b8
  go_wp2_with fail
  refine (words_any _ _ _ _ T.out.1.has (by omega)).mono ?_
  rintro e w9 ⟨g3, cap3, rfl, hg3, R3, t9⟩
  have T := Lib.hid (T.out.step t9)
  have R3 := Lib.hid R3
  clear t9 hg3
  go_wp2_with fail
  refine (same_yes g3 cap3 g2 cap2 ws.length _ _ R3.out T.out.2.1 rfl (by omega)).mono ?_
  rintro e w10 ⟨rfl, b10⟩
  have T := Lib.hid (T.out.keep b10)
  clear b10 R3
  go_wp2
  go_ret
  exact ⟨rfl, T.out.1.old⟩

set_option maxHeartbeats 16000000 in
set_option maxRecDepth 100000 in
theorem objFields_no1 (n seed at_ k x : Int) (n0 : 0 ≤ n) (n1 : n ≤ 255) (x0 : 0 ≤ seed) (x1 : seed ≤ 18446744073709551615) (a0 : -9223372036854775808 ≤ at_) (a1 : at_ ≤ 9223372036854775807) (k0 : -9223372036854775808 ≤ k) (k1 : k ≤ 9223372036854775807) (_ : 0 ≤ x) (_ : x ≤ 18446744073709551615) (w : World) (hok : (¬ (0 ≤ at_ ∧ at_ < n % 100 - 1)) ∧ (¬ at_ < 0 ∧ 1048576 < at_)) :
    Calls Try.prog 4 #[.int .u8 n, .int .u64 seed, .int .i64 at_, .int .i64 k, .int .u64 x] w fun e w' => e = .returned (.bool true) ∧ Below w.heap.size w w' := by
  obtain ⟨N, hN⟩ : ∃ N, n % 100 = N := ⟨_, rfl⟩
  rw [hN] at hok
  have HOK := Lib.hid hok
  clear hok
  have m0 : 0 ≤ N := by omega
  have m1 : N < 100 := by omega
  obtain ⟨i0, hi, hz, hs, hby⟩ := info_parts info_u64
  have HI0 := Lib.hid (And.intro hi (And.intro hz (And.intro hs hby)))
  clear hi hz hs hby
  go_enter Try.func4, Try.ntmps4
  go_wp2_with fail
  try rw [hN]
  refine (filled_any N seed m0 m1 x0 (by omega) _).mono ?_
  rintro e w1 ⟨ws, g1, cap1, rfl, hL, hU, h1, h2, h3, h4⟩
  obtain ⟨a, b, cur, ea, RC0, S0⟩ := ses_filled0 h1 h2 h3 h4
  have S := Lib.hid S0
  have RC := Lib.hid RC0
  have HU := Lib.hid hU
  rw [← ea]
  clear h1 h2 h3 h4 ea hU hN n0 n1 x0 x1 S0 RC0
  obtain rfl : N = ws.length := hL.symm
  have hl : ws.length < 100 := by omega
  clear hL m1
  have hok := HOK.out
  clear HOK
  obtain ⟨hf, hk⟩ := hok
  have HF := Lib.hid (show ¬ (0 ≤ k ∧ k < 64 ∧ InW ws.length at_ (2 + k)) by unfold InW; omega)
  have HW := Lib.hid (show ¬ InW ws.length at_ 1 by unfold InW; omega)
  obtain ⟨c0, c1⟩ := hk
  clear hf
  go_wp2_with fail
  refine (field_no _ _ _ _ S.out.has (by omega) at_ k HF.out).mono ?_
  rintro e w2 ⟨rfl, rfl⟩
  go_wp2_with fail
  refine (setField_no _ _ _ _ S.out.has (by omega) at_ k x HF.out).mono ?_
  rintro e w2 ⟨rfl, rfl⟩
  have S1 := Lib.hid (S.out.alloc (.cells #[] 22))
  have O1 : Hid ((w1.alloc (.cells #[] 22)).ownsRow w.heap.size 22 1 (.slice (some ⟨w1.heap.size, 0, none⟩) 0 0) 0 []) := Lib.hid ((row_nil w1).own (base := w.heap.size) S.out.old.size)
  have X1 := Lib.hid (RC.out.row (S1.out.blk _ (List.mem_cons_self ..)).1)
  go_wp2_with (first
    | (at_builtin; (refine wpList_append_own_at _ rfl _ _ 26 rfl w.heap.size 22 i0 (.int .u64 0) 1 8 Try.underlying26 HI0.out.1 HI0.out.2.1 HI0.out.2.2.1 HI0.out.2.2.2 rfl (by decide) _ _ _ rfl O1.out ⟨g1, 0, none⟩ ws.length cap1 (vals ws) rfl (by simp [vals]) X1.out.news (vals_one ws) (by unfold maxLen; omega) (by omega) ?c5 ?_))
    | fail)
  case c5 => exact S1.out.old.size
  intro v1 w4 hown hgrow hne hob
  obtain ⟨g2, cap2, rfl, T0⟩ := S.out.copied hown rfl hgrow hne hob
  have T := Lib.hid T0
  clear hown hgrow hne hob T0 S S1 O1 X1
  go_wp2_with fail
  refine (way_no _ _ _ _ T.out.1.has (by omega) at_ HW.out).mono ?_
  rintro e w6 ⟨rfl, rfl⟩
  go_wp2_with fail
  refine (setWay_no _ _ _ _ T.out.1.has (by omega) at_ 5 (by omega) (by omega) HW.out).mono ?_
  rintro e w6 ⟨rfl, rfl⟩
  go_wp2_with fail
  refine (awake_any _).mono ?_
  rintro e w8 ⟨rfl, b8⟩
  have T := Lib.hid (T.out.keep b8)
  clear b8
  go_wp2_with fail
  refine (words_any _ _ _ _ T.out.1.has (by omega)).mono ?_
  rintro e w9 ⟨g3, cap3, rfl, hg3, R3, t9⟩
  have T := Lib.hid (T.out.step t9)
  have R3 := Lib.hid R3
  clear t9 hg3
  go_wp2_with fail
  refine (same_yes g3 cap3 g2 cap2 ws.length _ _ R3.out T.out.2.1 rfl (by omega)).mono ?_
  rintro e w10 ⟨rfl, b10⟩
  have T := Lib.hid (T.out.keep b10)
  clear b10 R3
  go_wp2
  go_ret
  exact ⟨rfl, T.out.1.old⟩

set_option maxHeartbeats 16000000 in
set_option maxRecDepth 100000 in
theorem objFields_no2 (n seed at_ k x : Int) (n0 : 0 ≤ n) (n1 : n ≤ 255) (x0 : 0 ≤ seed) (x1 : seed ≤ 18446744073709551615) (a0 : -9223372036854775808 ≤ at_) (a1 : at_ ≤ 9223372036854775807) (k0 : -9223372036854775808 ≤ k) (k1 : k ≤ 9223372036854775807) (_ : 0 ≤ x) (_ : x ≤ 18446744073709551615) (w : World) (hok : (¬ (0 ≤ at_ ∧ at_ < n % 100 - 1)) ∧ (0 ≤ at_ ∧ at_ ≤ 1048576 ∧ k < 0)) :
    Calls Try.prog 4 #[.int .u8 n, .int .u64 seed, .int .i64 at_, .int .i64 k, .int .u64 x] w fun e w' => e = .returned (.bool true) ∧ Below w.heap.size w w' := by
  obtain ⟨N, hN⟩ : ∃ N, n % 100 = N := ⟨_, rfl⟩
  rw [hN] at hok
  have HOK := Lib.hid hok
  clear hok
  have m0 : 0 ≤ N := by omega
  have m1 : N < 100 := by omega
  obtain ⟨i0, hi, hz, hs, hby⟩ := info_parts info_u64
  have HI0 := Lib.hid (And.intro hi (And.intro hz (And.intro hs hby)))
  clear hi hz hs hby
  go_enter Try.func4, Try.ntmps4
  go_wp2_with fail
  try rw [hN]
  refine (filled_any N seed m0 m1 x0 (by omega) _).mono ?_
  rintro e w1 ⟨ws, g1, cap1, rfl, hL, hU, h1, h2, h3, h4⟩
  obtain ⟨a, b, cur, ea, RC0, S0⟩ := ses_filled0 h1 h2 h3 h4
  have S := Lib.hid S0
  have RC := Lib.hid RC0
  have HU := Lib.hid hU
  rw [← ea]
  clear h1 h2 h3 h4 ea hU hN n0 n1 x0 x1 S0 RC0
  obtain rfl : N = ws.length := hL.symm
  have hl : ws.length < 100 := by omega
  clear hL m1
  have hok := HOK.out
  clear HOK
  obtain ⟨hf, hk⟩ := hok
  have HF := Lib.hid (show ¬ (0 ≤ k ∧ k < 64 ∧ InW ws.length at_ (2 + k)) by unfold InW; omega)
  have HW := Lib.hid (show ¬ InW ws.length at_ 1 by unfold InW; omega)
  obtain ⟨c0, c1, c2⟩ := hk
  have hf2 : (ws.length : Int) - 1 ≤ at_ := by omega
  clear hf
  go_wp2_with fail
  refine (field_no _ _ _ _ S.out.has (by omega) at_ k HF.out).mono ?_
  rintro e w2 ⟨rfl, rfl⟩
  go_wp2_with fail
  refine (setField_no _ _ _ _ S.out.has (by omega) at_ k x HF.out).mono ?_
  rintro e w2 ⟨rfl, rfl⟩
  have S1 := Lib.hid (S.out.alloc (.cells #[] 22))
  have O1 : Hid ((w1.alloc (.cells #[] 22)).ownsRow w.heap.size 22 1 (.slice (some ⟨w1.heap.size, 0, none⟩) 0 0) 0 []) := Lib.hid ((row_nil w1).own (base := w.heap.size) S.out.old.size)
  have X1 := Lib.hid (RC.out.row (S1.out.blk _ (List.mem_cons_self ..)).1)
  go_wp2_with (first
    | (at_builtin; (refine wpList_append_own_at _ rfl _ _ 26 rfl w.heap.size 22 i0 (.int .u64 0) 1 8 Try.underlying26 HI0.out.1 HI0.out.2.1 HI0.out.2.2.1 HI0.out.2.2.2 rfl (by decide) _ _ _ rfl O1.out ⟨g1, 0, none⟩ ws.length cap1 (vals ws) rfl (by simp [vals]) X1.out.news (vals_one ws) (by unfold maxLen; omega) (by omega) ?c5 ?_))
    | fail)
  case c5 => exact S1.out.old.size
  intro v1 w4 hown hgrow hne hob
  obtain ⟨g2, cap2, rfl, T0⟩ := S.out.copied hown rfl hgrow hne hob
  have T := Lib.hid T0
  clear hown hgrow hne hob T0 S S1 O1 X1
  go_wp2_with fail
  refine (way_no _ _ _ _ T.out.1.has (by omega) at_ HW.out).mono ?_
  rintro e w6 ⟨rfl, rfl⟩
  go_wp2_with fail
  refine (setWay_no _ _ _ _ T.out.1.has (by omega) at_ 5 (by omega) (by omega) HW.out).mono ?_
  rintro e w6 ⟨rfl, rfl⟩
  go_wp2_with fail
  refine (awake_any _).mono ?_
  rintro e w8 ⟨rfl, b8⟩
  have T := Lib.hid (T.out.keep b8)
  clear b8
  go_wp2_with fail
  refine (words_any _ _ _ _ T.out.1.has (by omega)).mono ?_
  rintro e w9 ⟨g3, cap3, rfl, hg3, R3, t9⟩
  have T := Lib.hid (T.out.step t9)
  have R3 := Lib.hid R3
  clear t9 hg3
  go_wp2_with fail
  refine (same_yes g3 cap3 g2 cap2 ws.length _ _ R3.out T.out.2.1 rfl (by omega)).mono ?_
  rintro e w10 ⟨rfl, b10⟩
  have T := Lib.hid (T.out.keep b10)
  clear b10 R3
  go_wp2
  go_ret
  exact ⟨rfl, T.out.1.old⟩

set_option maxHeartbeats 16000000 in
set_option maxRecDepth 100000 in
theorem objFields_no3 (n seed at_ k x : Int) (n0 : 0 ≤ n) (n1 : n ≤ 255) (x0 : 0 ≤ seed) (x1 : seed ≤ 18446744073709551615) (a0 : -9223372036854775808 ≤ at_) (a1 : at_ ≤ 9223372036854775807) (k0 : -9223372036854775808 ≤ k) (k1 : k ≤ 9223372036854775807) (_ : 0 ≤ x) (_ : x ≤ 18446744073709551615) (w : World) (hok : (¬ (0 ≤ at_ ∧ at_ < n % 100 - 1)) ∧ (0 ≤ at_ ∧ at_ ≤ 1048576 ∧ 0 ≤ k ∧ 64 ≤ k)) :
    Calls Try.prog 4 #[.int .u8 n, .int .u64 seed, .int .i64 at_, .int .i64 k, .int .u64 x] w fun e w' => e = .returned (.bool true) ∧ Below w.heap.size w w' := by
  obtain ⟨N, hN⟩ : ∃ N, n % 100 = N := ⟨_, rfl⟩
  rw [hN] at hok
  have HOK := Lib.hid hok
  clear hok
  have m0 : 0 ≤ N := by omega
  have m1 : N < 100 := by omega
  obtain ⟨i0, hi, hz, hs, hby⟩ := info_parts info_u64
  have HI0 := Lib.hid (And.intro hi (And.intro hz (And.intro hs hby)))
  clear hi hz hs hby
  go_enter Try.func4, Try.ntmps4
  go_wp2_with fail
  try rw [hN]
  refine (filled_any N seed m0 m1 x0 (by omega) _).mono ?_
  rintro e w1 ⟨ws, g1, cap1, rfl, hL, hU, h1, h2, h3, h4⟩
  obtain ⟨a, b, cur, ea, RC0, S0⟩ := ses_filled0 h1 h2 h3 h4
  have S := Lib.hid S0
  have RC := Lib.hid RC0
  have HU := Lib.hid hU
  rw [← ea]
  clear h1 h2 h3 h4 ea hU hN n0 n1 x0 x1 S0 RC0
  obtain rfl : N = ws.length := hL.symm
  have hl : ws.length < 100 := by omega
  clear hL m1
  have hok := HOK.out
  clear HOK
  obtain ⟨hf, hk⟩ := hok
  have HF := Lib.hid (show ¬ (0 ≤ k ∧ k < 64 ∧ InW ws.length at_ (2 + k)) by unfold InW; omega)
  have HW := Lib.hid (show ¬ InW ws.length at_ 1 by unfold InW; omega)
  obtain ⟨c0, c1, c2, c3⟩ := hk
  have hf2 : (ws.length : Int) - 1 ≤ at_ := by omega
  clear hf
  go_wp2_with fail
  refine (field_no _ _ _ _ S.out.has (by omega) at_ k HF.out).mono ?_
  rintro e w2 ⟨rfl, rfl⟩
  go_wp2_with fail
  refine (setField_no _ _ _ _ S.out.has (by omega) at_ k x HF.out).mono ?_
  rintro e w2 ⟨rfl, rfl⟩
  have S1 := Lib.hid (S.out.alloc (.cells #[] 22))
  have O1 : Hid ((w1.alloc (.cells #[] 22)).ownsRow w.heap.size 22 1 (.slice (some ⟨w1.heap.size, 0, none⟩) 0 0) 0 []) := Lib.hid ((row_nil w1).own (base := w.heap.size) S.out.old.size)
  have X1 := Lib.hid (RC.out.row (S1.out.blk _ (List.mem_cons_self ..)).1)
  go_wp2_with (first
    | (at_builtin; (refine wpList_append_own_at _ rfl _ _ 26 rfl w.heap.size 22 i0 (.int .u64 0) 1 8 Try.underlying26 HI0.out.1 HI0.out.2.1 HI0.out.2.2.1 HI0.out.2.2.2 rfl (by decide) _ _ _ rfl O1.out ⟨g1, 0, none⟩ ws.length cap1 (vals ws) rfl (by simp [vals]) X1.out.news (vals_one ws) (by unfold maxLen; omega) (by omega) ?c5 ?_))
    | fail)
  case c5 => exact S1.out.old.size
  intro v1 w4 hown hgrow hne hob
  obtain ⟨g2, cap2, rfl, T0⟩ := S.out.copied hown rfl hgrow hne hob
  have T := Lib.hid T0
  clear hown hgrow hne hob T0 S S1 O1 X1
  go_wp2_with fail
  refine (way_no _ _ _ _ T.out.1.has (by omega) at_ HW.out).mono ?_
  rintro e w6 ⟨rfl, rfl⟩
  go_wp2_with fail
  refine (setWay_no _ _ _ _ T.out.1.has (by omega) at_ 5 (by omega) (by omega) HW.out).mono ?_
  rintro e w6 ⟨rfl, rfl⟩
  go_wp2_with fail
  refine (awake_any _).mono ?_
  rintro e w8 ⟨rfl, b8⟩
  have T := Lib.hid (T.out.keep b8)
  clear b8
  go_wp2_with fail
  refine (words_any _ _ _ _ T.out.1.has (by omega)).mono ?_
  rintro e w9 ⟨g3, cap3, rfl, hg3, R3, t9⟩
  have T := Lib.hid (T.out.step t9)
  have R3 := Lib.hid R3
  clear t9 hg3
  go_wp2_with fail
  refine (same_yes g3 cap3 g2 cap2 ws.length _ _ R3.out T.out.2.1 rfl (by omega)).mono ?_
  rintro e w10 ⟨rfl, b10⟩
  have T := Lib.hid (T.out.keep b10)
  clear b10 R3
  go_wp2
  go_ret
  exact ⟨rfl, T.out.1.old⟩

set_option maxHeartbeats 16000000 in
set_option maxRecDepth 100000 in
theorem objFields_no4 (n seed at_ k x : Int) (n0 : 0 ≤ n) (n1 : n ≤ 255) (x0 : 0 ≤ seed) (x1 : seed ≤ 18446744073709551615) (a0 : -9223372036854775808 ≤ at_) (a1 : at_ ≤ 9223372036854775807) (k0 : -9223372036854775808 ≤ k) (k1 : k ≤ 9223372036854775807) (_ : 0 ≤ x) (_ : x ≤ 18446744073709551615) (w : World) (hok : (¬ (0 ≤ at_ ∧ at_ < n % 100 - 1)) ∧ (0 ≤ at_ ∧ at_ ≤ 1048576 ∧ 0 ≤ k ∧ k < 64 ∧ n % 100 ≤ at_ + 2 + k)) :
    Calls Try.prog 4 #[.int .u8 n, .int .u64 seed, .int .i64 at_, .int .i64 k, .int .u64 x] w fun e w' => e = .returned (.bool true) ∧ Below w.heap.size w w' := by
  obtain ⟨N, hN⟩ : ∃ N, n % 100 = N := ⟨_, rfl⟩
  rw [hN] at hok
  have HOK := Lib.hid hok
  clear hok
  have m0 : 0 ≤ N := by omega
  have m1 : N < 100 := by omega
  obtain ⟨i0, hi, hz, hs, hby⟩ := info_parts info_u64
  have HI0 := Lib.hid (And.intro hi (And.intro hz (And.intro hs hby)))
  clear hi hz hs hby
  go_enter Try.func4, Try.ntmps4
  go_wp2_with fail
  try rw [hN]
  refine (filled_any N seed m0 m1 x0 (by omega) _).mono ?_
  rintro e w1 ⟨ws, g1, cap1, rfl, hL, hU, h1, h2, h3, h4⟩
  obtain ⟨a, b, cur, ea, RC0, S0⟩ := ses_filled0 h1 h2 h3 h4
  have S := Lib.hid S0
  have RC := Lib.hid RC0
  have HU := Lib.hid hU
  rw [← ea]
  clear h1 h2 h3 h4 ea hU hN n0 n1 x0 x1 S0 RC0
  obtain rfl : N = ws.length := hL.symm
  have hl : ws.length < 100 := by omega
  clear hL m1
  have hok := HOK.out
  clear HOK
  obtain ⟨hf, hk⟩ := hok
  have HF := Lib.hid (show ¬ (0 ≤ k ∧ k < 64 ∧ InW ws.length at_ (2 + k)) by unfold InW; omega)
  have HW := Lib.hid (show ¬ InW ws.length at_ 1 by unfold InW; omega)
  obtain ⟨c0, c1, c2, c3, c4⟩ := hk
  have hf2 : (ws.length : Int) - 1 ≤ at_ := by omega
  clear hf
  go_wp2_with fail
  refine (field_no _ _ _ _ S.out.has (by omega) at_ k HF.out).mono ?_
  rintro e w2 ⟨rfl, rfl⟩
  go_wp2_with fail
  refine (setField_no _ _ _ _ S.out.has (by omega) at_ k x HF.out).mono ?_
  rintro e w2 ⟨rfl, rfl⟩
  have S1 := Lib.hid (S.out.alloc (.cells #[] 22))
  have O1 : Hid ((w1.alloc (.cells #[] 22)).ownsRow w.heap.size 22 1 (.slice (some ⟨w1.heap.size, 0, none⟩) 0 0) 0 []) := Lib.hid ((row_nil w1).own (base := w.heap.size) S.out.old.size)
  have X1 := Lib.hid (RC.out.row (S1.out.blk _ (List.mem_cons_self ..)).1)
  go_wp2_with (first
    | (at_builtin; (refine wpList_append_own_at _ rfl _ _ 26 rfl w.heap.size 22 i0 (.int .u64 0) 1 8 Try.underlying26 HI0.out.1 HI0.out.2.1 HI0.out.2.2.1 HI0.out.2.2.2 rfl (by decide) _ _ _ rfl O1.out ⟨g1, 0, none⟩ ws.length cap1 (vals ws) rfl (by simp [vals]) X1.out.news (vals_one ws) (by unfold maxLen; omega) (by omega) ?c5 ?_))
    | fail)
  case c5 => exact S1.out.old.size
  intro v1 w4 hown hgrow hne hob
  obtain ⟨g2, cap2, rfl, T0⟩ := S.out.copied hown rfl hgrow hne hob
  have T := Lib.hid T0
  clear hown hgrow hne hob T0 S S1 O1 X1
  go_wp2_with fail
  refine (way_no _ _ _ _ T.out.1.has (by omega) at_ HW.out).mono ?_
  rintro e w6 ⟨rfl, rfl⟩
  go_wp2_with fail
  refine (setWay_no _ _ _ _ T.out.1.has (by omega) at_ 5 (by omega) (by omega) HW.out).mono ?_
  rintro e w6 ⟨rfl, rfl⟩
  go_wp2_with fail
  refine (awake_any _).mono ?_
  rintro e w8 ⟨rfl, b8⟩
  have T := Lib.hid (T.out.keep b8)
  clear b8
  go_wp2_with fail
  refine (words_any _ _ _ _ T.out.1.has (by omega)).mono ?_
  rintro e w9 ⟨g3, cap3, rfl, hg3, R3, t9⟩
  have T := Lib.hid (T.out.step t9)
  have R3 := Lib.hid R3
  clear t9 hg3
  go_wp2_with fail
  refine (same_yes g3 cap3 g2 cap2 ws.length _ _ R3.out T.out.2.1 rfl (by omega)).mono ?_
  rintro e w10 ⟨rfl, b10⟩
  have T := Lib.hid (T.out.keep b10)
  clear b10 R3
  go_wp2
  go_ret
  exact ⟨rfl, T.out.1.old⟩

set_option maxHeartbeats 16000000 in
set_option maxRecDepth 100000 in
theorem objFields_walk (n seed at_ k x : Int) (n0 : 0 ≤ n) (n1 : n ≤ 255) (x0 : 0 ≤ seed) (x1 : seed ≤ 18446744073709551615) (a0 : -9223372036854775808 ≤ at_) (a1 : at_ ≤ 9223372036854775807) (k0 : -9223372036854775808 ≤ k) (k1 : k ≤ 9223372036854775807) (v0 : 0 ≤ x) (v1 : x ≤ 18446744073709551615) (w : World) :
    Calls Try.prog 4 #[.int .u8 n, .int .u64 seed, .int .i64 at_, .int .i64 k, .int .u64 x] w fun e w' => e = .returned (.bool true) ∧ Below w.heap.size w w' := by
  by_cases h1 : 0 ≤ at_ ∧ 0 ≤ k ∧ k < 64 ∧ at_ + 2 + k < n % 100
  · exact objFields_ok n seed at_ k x n0 n1 x0 x1 a0 a1 k0 k1 v0 v1 w h1
  by_cases h2 : 0 ≤ at_ ∧ at_ < n % 100 - 1
  · by_cases c1 : k < 0
    · exact objFields_mid0 n seed at_ k x n0 n1 x0 x1 a0 a1 k0 k1 v0 v1 w ⟨h2, c1⟩
    by_cases c2 : 64 ≤ k
    · exact objFields_mid1 n seed at_ k x n0 n1 x0 x1 a0 a1 k0 k1 v0 v1 w ⟨h2, by omega⟩
    · exact objFields_mid2 n seed at_ k x n0 n1 x0 x1 a0 a1 k0 k1 v0 v1 w ⟨h2, by omega⟩
  by_cases d0 : at_ < 0
  · exact objFields_no0 n seed at_ k x n0 n1 x0 x1 a0 a1 k0 k1 v0 v1 w ⟨h2, d0⟩
  by_cases d1 : 1048576 < at_
  · exact objFields_no1 n seed at_ k x n0 n1 x0 x1 a0 a1 k0 k1 v0 v1 w ⟨h2, by omega⟩
  by_cases d2 : k < 0
  · exact objFields_no2 n seed at_ k x n0 n1 x0 x1 a0 a1 k0 k1 v0 v1 w ⟨h2, by omega⟩
  by_cases d3 : 64 ≤ k
  · exact objFields_no3 n seed at_ k x n0 n1 x0 x1 a0 a1 k0 k1 v0 v1 w ⟨h2, by omega⟩
  · exact objFields_no4 n seed at_ k x n0 n1 x0 x1 a0 a1 k0 k1 v0 v1 w ⟨h2, by omega⟩
end Go.Proofs.Ythhbamllnacklaa

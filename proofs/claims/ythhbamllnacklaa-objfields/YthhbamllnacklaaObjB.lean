/- Contracts of Way, SetWay, Field, SetField, Head, SetHead. -/
import Derived.Test.YthhbamllnacklaaObjA
namespace Go.Proofs.Ythhbamllnacklaa
open Go.RowKit

section
variable (a b : Nat) (ws : List Int) (w : World) (h : Has w a b ws) (hl : ws.length ≤ 1048576)
include h hl

set_option maxHeartbeats 1000000 in
theorem way_yes (at_ x : Int) (hi : InW ws.length at_ 1) (hx : ws[(at_ + 1).toNat]? = some x) :
    Calls Try.prog 16 #[arP a, .int .i64 at_] w fun e w' => e = .returned (.tuple #[.int .i64 (wrap64 x), .int .i64 0]) ∧ Now a b ws w w' := by
  have L := Lib.hid (oLoad_yes a b ws w h hl at_ 1 x (by omega) (by omega) hi hx)
  clear h hl hi hx
  go_enter Try.func16, Try.ntmps16
  go_wp2_with fail
  refine L.out.mono ?_
  rintro e w1 ⟨rfl, t⟩
  go_wp2
  go_ret2
  exact ⟨rfl, t⟩

set_option maxHeartbeats 1000000 in
theorem way_no (at_ : Int) (hi : ¬ InW ws.length at_ 1) :
    Calls Try.prog 16 #[arP a, .int .i64 at_] w fun e w' => e = .returned (.tuple #[.int .i64 0, .int .i64 2]) ∧ w = w' := by
  have L := Lib.hid (oLoad_no a b ws w h hl at_ 1 (by omega) (by omega) hi)
  clear h hl hi
  go_enter Try.func16, Try.ntmps16
  go_wp2_with fail
  refine L.out.mono ?_
  rintro e w1 ⟨rfl, rfl⟩
  go_wp2
  go_ret2
  exact ⟨rfl, rfl⟩

set_option maxHeartbeats 1000000 in
theorem setWay_yes (at_ to : Int) (t0 : 0 ≤ to) (t1 : to ≤ 1048576) (hi : InW ws.length at_ 1) :
    Calls Try.prog 20 #[arP a, .int .i64 at_, .int .i64 to] w fun e w' => e = .returned (.int .i64 0) ∧ Now a b (ws.set (at_ + 1).toNat to) w w' := by
  have L := Lib.hid (oStore_yes a b ws w h hl at_ 1 to (by omega) (by omega) hi)
  have P1 := Lib.hid (plB_yes t0 t1)
  clear h hl hi
  go_enter Try.func20, Try.ntmps20
  go_wp2_with fail
  refine (isPlace_any _ _).mono ?_
  rintro e w1 ⟨he, rfl⟩
  obtain rfl : e = .returned (.bool true) := he.trans (ret_bool P1.out)
  go_wp2_with fail
  refine L.out.mono ?_
  rintro e w1 ⟨rfl, t⟩
  go_wp2
  go_ret
  exact ⟨rfl, t⟩

set_option maxHeartbeats 1000000 in
theorem setWay_no (at_ to : Int) (t0 : 0 ≤ to) (t1 : to ≤ 1048576) (hi : ¬ InW ws.length at_ 1) :
    Calls Try.prog 20 #[arP a, .int .i64 at_, .int .i64 to] w fun e w' => e = .returned (.int .i64 2) ∧ w = w' := by
  have L := Lib.hid (oStore_no a b ws w h hl at_ 1 to (by omega) (by omega) hi)
  have P1 := Lib.hid (plB_yes t0 t1)
  clear h hl hi
  go_enter Try.func20, Try.ntmps20
  go_wp2_with fail
  refine (isPlace_any _ _).mono ?_
  rintro e w1 ⟨he, rfl⟩
  obtain rfl : e = .returned (.bool true) := he.trans (ret_bool P1.out)
  go_wp2_with fail
  refine L.out.mono ?_
  rintro e w1 ⟨rfl, rfl⟩
  go_wp2
  go_ret
  exact ⟨rfl, rfl⟩

set_option maxHeartbeats 1000000 in
theorem field_yes (at_ n x : Int) (n0 : 0 ≤ n) (n1 : n < 64) (hi : InW ws.length at_ (2 + n)) (hx : ws[(at_ + (2 + n)).toNat]? = some x) :
    Calls Try.prog 18 #[arP a, .int .i64 at_, .int .i64 n] w fun e w' => e = .returned (.tuple #[.int .u64 x, .int .i64 0]) ∧ Now a b ws w w' := by
  have L := Lib.hid (oLoad_yes a b ws w h hl at_ (2 + n) x (by omega) (by omega) hi hx)
  have P1 := Lib.hid (fdB_yes n0 n1)
  clear h hl hi hx
  go_enter Try.func18, Try.ntmps18
  go_wp2_with fail
  refine (isField_any _ _).mono ?_
  rintro e w1 ⟨he, rfl⟩
  obtain rfl : e = .returned (.bool true) := he.trans (ret_bool P1.out)
  go_wp2_with fail
  refine L.out.mono ?_
  rintro e w1 ⟨rfl, t⟩
  go_wp2
  go_ret2
  exact ⟨rfl, t⟩

set_option maxHeartbeats 1000000 in
theorem field_no (at_ n : Int) (hi : ¬ (0 ≤ n ∧ n < 64 ∧ InW ws.length at_ (2 + n))) :
    Calls Try.prog 18 #[arP a, .int .i64 at_, .int .i64 n] w fun e w' => e = .returned (.tuple #[.int .u64 0, .int .i64 2]) ∧ w = w' := by
  by_cases k : 0 ≤ n ∧ n < 64
  · obtain ⟨n0, n1⟩ := k
    have L := Lib.hid (oLoad_no a b ws w h hl at_ (2 + n) (by omega) (by omega) (fun e => hi ⟨n0, n1, e⟩))
    have P1 := Lib.hid (fdB_yes n0 n1)
    clear h hl hi
    go_enter Try.func18, Try.ntmps18
    go_wp2_with fail
    refine (isField_any _ _).mono ?_
    rintro e w1 ⟨he, rfl⟩
    obtain rfl : e = .returned (.bool true) := he.trans (ret_bool P1.out)
    go_wp2_with fail
    refine L.out.mono ?_
    rintro e w1 ⟨rfl, rfl⟩
    go_wp2
    go_ret2
    exact ⟨rfl, rfl⟩
  · have P1 := Lib.hid (fdB_no (x := n) (by omega))
    clear h hl hi k
    go_enter Try.func18, Try.ntmps18
    go_wp2_with fail
    refine (isField_any _ _).mono ?_
    rintro e w1 ⟨he, rfl⟩
    obtain rfl : e = .returned (.bool false) := he.trans (ret_bool P1.out)
    go_wp2
    go_ret2
    exact ⟨rfl, rfl⟩

set_option maxHeartbeats 1000000 in
theorem setField_yes (at_ n x : Int) (n0 : 0 ≤ n) (n1 : n < 64) (hi : InW ws.length at_ (2 + n)) :
    Calls Try.prog 19 #[arP a, .int .i64 at_, .int .i64 n, .int .u64 x] w fun e w' => e = .returned (.int .i64 0) ∧ Now a b (ws.set (at_ + (2 + n)).toNat x) w w' := by
  have L := Lib.hid (oStore_yes a b ws w h hl at_ (2 + n) x (by omega) (by omega) hi)
  have P1 := Lib.hid (fdB_yes n0 n1)
  clear h hl hi
  go_enter Try.func19, Try.ntmps19
  go_wp2_with fail
  refine (isField_any _ _).mono ?_
  rintro e w1 ⟨he, rfl⟩
  obtain rfl : e = .returned (.bool true) := he.trans (ret_bool P1.out)
  go_wp2_with fail
  refine L.out.mono ?_
  rintro e w1 ⟨rfl, t⟩
  go_wp2
  go_ret
  exact ⟨rfl, t⟩

set_option maxHeartbeats 1000000 in
theorem setField_no (at_ n x : Int) (hi : ¬ (0 ≤ n ∧ n < 64 ∧ InW ws.length at_ (2 + n))) :
    Calls Try.prog 19 #[arP a, .int .i64 at_, .int .i64 n, .int .u64 x] w fun e w' => e = .returned (.int .i64 2) ∧ w = w' := by
  by_cases k : 0 ≤ n ∧ n < 64
  · obtain ⟨n0, n1⟩ := k
    have L := Lib.hid (oStore_no a b ws w h hl at_ (2 + n) x (by omega) (by omega) (fun e => hi ⟨n0, n1, e⟩))
    have P1 := Lib.hid (fdB_yes n0 n1)
    clear h hl hi
    go_enter Try.func19, Try.ntmps19
    go_wp2_with fail
    refine (isField_any _ _).mono ?_
    rintro e w1 ⟨he, rfl⟩
    obtain rfl : e = .returned (.bool true) := he.trans (ret_bool P1.out)
    go_wp2_with fail
    refine L.out.mono ?_
    rintro e w1 ⟨rfl, rfl⟩
    go_wp2
    go_ret
    exact ⟨rfl, rfl⟩
  · have P1 := Lib.hid (fdB_no (x := n) (by omega))
    clear h hl hi k
    go_enter Try.func19, Try.ntmps19
    go_wp2_with fail
    refine (isField_any _ _).mono ?_
    rintro e w1 ⟨he, rfl⟩
    obtain rfl : e = .returned (.bool false) := he.trans (ret_bool P1.out)
    go_wp2
    go_ret
    exact ⟨rfl, rfl⟩

omit hl in
set_option maxHeartbeats 1000000 in
theorem setHead_arg (at_ : Int) (s p q y : Int) (g n o : Bool) (hg : goodB s p q y = false) :
    Calls Try.prog 24 #[arP a, .int .i64 at_, hdV s p q y g n o] w fun e w' => e = .returned (.int .i64 1) ∧ Now a b ws w w' := by
  have HH := Lib.hid h
  clear h
  go_enter Try.func24, Try.ntmps24
  go_wp2_with fail
  refine (pack_no _ _ _ _ _ _ _ _ hg).mono ?_
  rintro e w1 ⟨rfl, b1⟩
  go_wp2
  go_ret
  exact ⟨rfl, HH.out.now (below_alloc_trans _ b1)⟩

set_option maxHeartbeats 1000000 in
theorem setHead_no (at_ : Int) (s p q y : Int) (g n o : Bool) (hg : goodB s p q y = true) (hi : ¬ InW ws.length at_ 0) :
    Calls Try.prog 24 #[arP a, .int .i64 at_, hdV s p q y g n o] w fun e w' => e = .returned (.int .i64 2) ∧ Now a b ws w w' := by
  have HH := Lib.hid h
  have HI := Lib.hid hi
  have HL := Lib.hid hl
  have HG := Lib.hid hg
  clear h hl hi hg
  go_enter Try.func24, Try.ntmps24
  go_wp2_with fail
  refine (pack_yes _ _ _ _ _ _ _ _ HG.out).mono ?_
  rintro e w1 ⟨rfl, b1⟩
  have H1 := Lib.hid ((HH.out.alloc _).keep b1)
  go_wp2_with fail
  refine (oStore_no a b ws _ H1.out HL.out at_ 0 _ (by omega) (by omega) HI.out).mono ?_
  rintro e w2 ⟨rfl, rfl⟩
  go_wp2
  go_ret
  exact ⟨rfl, HH.out.now (below_alloc_trans _ b1)⟩

set_option maxHeartbeats 1000000 in
theorem setHead_yes (at_ : Int) (s p q y : Int) (g n o : Bool) (hg : goodB s p q y = true) (hi : InW ws.length at_ 0) :
    Calls Try.prog 24 #[arP a, .int .i64 at_, hdV s p q y g n o] w fun e w' => e = .returned (.int .i64 0) ∧ Now a b (ws.set at_.toNat (wordI s p q y g n o)) w w' := by
  have HH := Lib.hid h
  have HI := Lib.hid hi
  have HL := Lib.hid hl
  have HG := Lib.hid hg
  clear h hl hi hg
  go_enter Try.func24, Try.ntmps24
  go_wp2_with fail
  refine (pack_yes _ _ _ _ _ _ _ _ HG.out).mono ?_
  rintro e w1 ⟨rfl, b1⟩
  have H1 := Lib.hid ((HH.out.alloc _).keep b1)
  go_wp2_with fail
  refine (oStore_yes a b ws _ H1.out HL.out at_ 0 _ (by omega) (by omega) HI.out).mono ?_
  rintro e w2 ⟨rfl, t⟩
  rw [Int.add_zero] at t
  go_wp2
  go_ret
  exact ⟨rfl, t.pre (below_alloc_trans _ b1)⟩

theorem head_no (at_ : Int) (hi : ¬ InW ws.length at_ 0) :
    Calls Try.prog 15 #[arP a, .int .i64 at_] w fun e w' => e = .returned (.tuple #[noV, .int .i64 2]) ∧ Now a b ws w w' := by
  have HH := Lib.hid h
  have L := Lib.hid (oLoad_no a b ws _ (h.alloc (.cells #[.int .i64 0, .int .i64 0, .int .i64 0, .int .i64 0, .bool false, .bool false, .bool false] 24)) hl at_ 0 (by omega) (by omega) hi)
  clear h hl hi
  go_enter Try.func15, Try.ntmps15
  go_wp2_with fail
  refine L.out.mono ?_
  rintro e w1 ⟨rfl, rfl⟩
  go_wp2
  exact bodyPost_ret (v := .tuple #[noV, .int .i64 2]) (by simp [results, Try.results15, go_sem]) rfl ⟨rfl, HH.out.now ((Below.refl _ _).alloc (Nat.le_refl _) _)⟩
end
end Go.Proofs.Ythhbamllnacklaa

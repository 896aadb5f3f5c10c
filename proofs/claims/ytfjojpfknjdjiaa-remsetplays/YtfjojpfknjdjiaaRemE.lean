/- awake; the walk of RemsetNone. -/
import Derived.Test.YtfjojpfknjdjiaaRemD
import Derived.Test.YtfjojpfknjdjiaaCutN
namespace Go.Proofs.Ytfjojpfknjdjiaa
open Go.RowKit

set_option maxHeartbeats 8000000 in
set_option maxRecDepth 100000 in
theorem rAwake_walk (w : World) : Calls Try.prog 14 #[] w fun e w' => e = .returned (.bool true) ∧ Below w.heap.size w w' := by
  go_enter Try.func14, Try.ntmps14
  go_wp2_with fail
  refine (rz_new (Z := noZ) 100 40 16 1 (Below.refl _ w) (fun k hk => hk.elim)).mono ?_
  rintro e w1 ⟨s, rfl, r, _⟩
  have H : Hid (Rz w w1 noZ s 1 100 40 16 [] [false, false, false] [] [false, false, false]) := Lib.hid r
  clear r
  unfold ptr
  go_wp2_with fail
  refine (rz_add_put 105 H.out (by decide) (by decide) (by decide)).mono ?_
  rintro e w2 ⟨rfl, r, _⟩
  have H : Hid (Rz w w2 noZ s 1 100 40 16 [] [false, false, false] [105] [false, false, false]) := Lib.hid r
  clear r
  go_wp2_with fail
  refine (rz_add_mark 106 0 H.out (by decide) (by decide) (by decide) (by decide)).mono ?_
  rintro e w3 ⟨rfl, r, _⟩
  have H : Hid (Rz w w3 noZ s 1 100 40 16 [] [false, false, false] [105] [true, false, false]) := Lib.hid r
  clear r
  go_wp2_with fail
  refine (rz_add_mark 139 2 H.out (by decide) (by decide) (by decide) (by decide)).mono ?_
  rintro e w4 ⟨rfl, r, _⟩
  have H : Hid (Rz w w4 noZ s 1 100 40 16 [] [false, false, false] [105] [true, false, true]) := Lib.hid r
  clear r
  go_wp2_with fail
  refine (rz_add_no 140 H.out (by decide)).mono ?_
  rintro e w5 ⟨rfl, rfl⟩
  go_wp2_with fail
  refine (rz_flip_yes H.out (by decide)).mono ?_
  rintro e w5 ⟨rfl, r, _⟩
  have H : Hid (Rz w w5 noZ s 1 100 40 16 [105] [true, false, true] [] [false, false, false]) := Lib.hid r
  clear r
  go_wp2_with fail
  refine (rz_flip_no H.out (by decide)).mono ?_
  rintro e w6 ⟨rfl, r, _⟩
  have H := Lib.hid r
  clear r
  go_wp2_with fail
  refine (rz_next_buf 105 H.out).mono ?_
  rintro e w7 ⟨rfl, r, _⟩
  have H := Lib.hid r
  clear r
  go_wp2_with fail
  refine (rz_next_card 0 H.out rfl (fun i hi => absurd hi (Nat.not_lt_zero _))).mono ?_
  rintro e w8 ⟨he, r, _⟩
  obtain rfl : e = .returned (.tuple #[.int .i64 100, .int .i64 116, .bool true, .bool true]) := he
  have H : Hid (Rz w w8 noZ s 1 100 40 16 [] [false, false, true] [] [false, false, false]) := Lib.hid r
  clear r
  go_wp2_with fail
  refine (rz_left H.out).mono ?_
  rintro e w9 ⟨he, r, _⟩
  obtain rfl : e = .returned (.int .i64 1) := he
  have H := Lib.hid r
  clear r
  go_wp2_with fail
  refine (rz_len H.out).mono ?_
  rintro e w10 ⟨he, r, _⟩
  obtain rfl : e = .returned (.int .i64 0) := he
  have H := Lib.hid r
  clear r
  go_wp2_with fail
  refine (cut_any 9 0 3 _).mono ?_
  rintro e w99 ⟨he, rfl⟩
  obtain rfl : e = .returned (.int .i64 3) := he
  go_wp2
  go_ret
  exact ⟨rfl, H.out.bel⟩

set_option maxHeartbeats 8000000 in
set_option maxRecDepth 100000 in
theorem remsetNone_walk (x : Int) (w : World) : Calls Try.prog 5 #[.int .i64 x] w fun e w' => e = .returned (.bool true) ∧ Below w.heap.size w w' := by
  go_enter Try.func5, Try.ntmps5
  go_wp2_with fail
  refine (next_nil w).mono ?_
  rintro e w1 ⟨rfl, rfl⟩
  go_wp2_with fail
  refine (rAwake_walk _).mono ?_
  rintro e w3 ⟨rfl, b3⟩
  have B := Lib.hid b3
  clear b3
  go_wp2_with fail
  refine (add_nil _ x).mono ?_
  rintro e w4 ⟨rfl, rfl⟩
  go_wp2_with fail
  refine (flip_nil _).mono ?_
  rintro e w4 ⟨rfl, rfl⟩
  go_wp2_with fail
  refine (left_nil _).mono ?_
  rintro e w4 ⟨rfl, rfl⟩
  go_wp2_with fail
  refine (len_nil _).mono ?_
  rintro e w4 ⟨rfl, rfl⟩
  go_wp2
  go_ret
  exact ⟨rfl, B.out⟩
end Go.Proofs.Ytfjojpfknjdjiaa

/- Halves that were made since a world; awake; the walk of BumpNone. -/
import Derived.Test.YtbpkoaojhcaahaaBumpB
namespace Go.Proofs.Ytbpkoaojhcaahaa
open Go.RowKit

/-- Halves made since w0; nothing older has turned. -/
structure Ses (w0 w : World) (b : Nat) (W F : Int) (n : Bool) (u v : Int) : Prop where
  is : IsBp w b W F n u v
  old : Below w0.heap.size w0 w
  new : w0.heap.size ≤ b

section
variable {w0 w w' : World} {b : Nat} {W F u v u' v' : Int} {n n' : Bool}
theorem Ses.keep (h : Ses w0 w b W F n u v) (k : Below w.heap.size w w') : Ses w0 w' b W F n u v := ⟨h.is.keep k, below_trans h.old k, h.new⟩
theorem Ses.step (h : Ses w0 w b W F n u v) (i : IsBp w' b W F n' u' v') (f : Frm (· = b) w w') : Ses w0 w' b W F n' u' v' :=
  ⟨i, Below.frm h.old f h.old.size (fun k hk e => by have := h.new; omega), h.new⟩
end

set_option maxHeartbeats 8000000 in
set_option maxRecDepth 100000 in
theorem awake_any (w : World) : Calls Try.prog 19 #[] w fun e w' => e = .returned (.bool true) ∧ Below w.heap.size w w' := by
  go_enter Try.func19, Try.ntmps19
  go_wp2_with fail
  refine (bNew_any 10 8 w).mono ?_
  rintro e w1 ⟨rfl, i1, b1⟩
  have HS : Hid (Ses w w1 w.heap.size 8 10 false 0 0) := Lib.hid ⟨i1, b1, Nat.le_refl _⟩
  clear i1 b1
  generalize w.heap.size = b at HS ⊢
  go_wp2_with fail
  refine (bTake_yes b 8 10 false 0 0 _ 3 HS.out.is (by omega) (by omega)).mono ?_
  rintro e w2 ⟨he, i1, f1⟩
  obtain rfl : e = .returned (.tuple #[.int .i64 10, .bool true]) := he
  have HS : Hid (Ses w w2 b 8 10 false 3 0) := Lib.hid (HS.out.step i1 f1)
  clear i1 f1
  go_wp2_with fail
  refine (bTake_yes b 8 10 false 3 0 _ 5 HS.out.is (by omega) (by omega)).mono ?_
  rintro e w3 ⟨he, i1, f1⟩
  obtain rfl : e = .returned (.tuple #[.int .i64 13, .bool true]) := he
  have HS : Hid (Ses w w3 b 8 10 false 8 0) := Lib.hid (HS.out.step i1 f1)
  clear i1 f1
  go_wp2_with fail
  refine (bTake_no b 8 10 false 8 0 _ 1 HS.out.is (by omega)).mono ?_
  rintro e w4 ⟨he, b1⟩
  obtain rfl : e = .returned (.tuple #[.int .i64 0, .bool false]) := he
  have HS : Hid (Ses w w4 b 8 10 false 8 0) := Lib.hid (HS.out.keep b1)
  clear b1
  go_wp2_with fail
  refine (bFlip_yes b 8 10 false 8 _ HS.out.is).mono ?_
  rintro e w5 ⟨he, i1, f1⟩
  obtain rfl : e = .returned (.bool true) := he
  have HS : Hid (Ses w w5 b 8 10 true 0 8) := Lib.hid (HS.out.step i1 f1)
  clear i1 f1
  go_wp2_with fail
  refine (bTake_yes b 8 10 true 0 8 _ 2 HS.out.is (by omega) (by omega)).mono ?_
  rintro e w6 ⟨he, i1, f1⟩
  obtain rfl : e = .returned (.tuple #[.int .i64 18, .bool true]) := he
  have HS : Hid (Ses w w6 b 8 10 true 2 8) := Lib.hid (HS.out.step i1 f1)
  clear i1 f1
  go_wp2_with fail
  refine (bFrom_any b 8 10 true 2 8 _ 17 HS.out.is).mono ?_
  rintro e w7 ⟨he, b1⟩
  obtain rfl : e = .returned (.bool true) := he
  have HS : Hid (Ses w w7 b 8 10 true 2 8) := Lib.hid (HS.out.keep b1)
  clear b1
  go_wp2_with fail
  refine (bIn_any b 8 10 true 2 8 _ 19 HS.out.is).mono ?_
  rintro e w8 ⟨he, b1⟩
  obtain rfl : e = .returned (.bool true) := he
  have HS : Hid (Ses w w8 b 8 10 true 2 8) := Lib.hid (HS.out.keep b1)
  clear b1
  go_wp2_with fail
  refine (bIn_any b 8 10 true 2 8 _ 20 HS.out.is).mono ?_
  rintro e w9 ⟨he, b1⟩
  obtain rfl : e = .returned (.bool false) := he
  have HS : Hid (Ses w w9 b 8 10 true 2 8) := Lib.hid (HS.out.keep b1)
  clear b1
  go_wp2_with fail
  refine (bLeft_any b 8 10 true 2 8 _ HS.out.is).mono ?_
  rintro e w10 ⟨he, b1⟩
  obtain rfl : e = .returned (.int .i64 8) := he
  have HS : Hid (Ses w w10 b 8 10 true 2 8) := Lib.hid (HS.out.keep b1)
  clear b1
  go_wp2_with fail
  refine (bRoom_any b 8 10 true 2 8 _ HS.out.is).mono ?_
  rintro e w11 ⟨he, b1⟩
  obtain rfl : e = .returned (.int .i64 6) := he
  have HS : Hid (Ses w w11 b 8 10 true 2 8) := Lib.hid (HS.out.keep b1)
  clear b1
  go_wp2_with fail
  refine (bFlip_no b 8 10 true 2 8 _ HS.out.is (by omega)).mono ?_
  rintro e w12 ⟨he, b1⟩
  obtain rfl : e = .returned (.bool false) := he
  have HS : Hid (Ses w w12 b 8 10 true 2 8) := Lib.hid (HS.out.keep b1)
  clear b1
  go_wp2_with fail
  refine (bDrop_yes b 8 10 true 2 8 _ HS.out.is (by omega)).mono ?_
  rintro e w13 ⟨he, i1, f1⟩
  obtain rfl : e = .returned (.bool true) := he
  have HS : Hid (Ses w w13 b 8 10 true 2 0) := Lib.hid (HS.out.step i1 f1)
  clear i1 f1
  go_wp2_with fail
  refine (bDrop_no b 8 10 true 2 _ HS.out.is).mono ?_
  rintro e w14 ⟨he, b1⟩
  obtain rfl : e = .returned (.bool false) := he
  have HS : Hid (Ses w w14 b 8 10 true 2 0) := Lib.hid (HS.out.keep b1)
  clear b1
  go_wp2_with fail
  refine (cut_any 3 0 2 _).mono ?_
  rintro e w99 ⟨he, rfl⟩
  obtain rfl : e = .returned (.int .i64 2) := he
  go_wp2
  go_ret
  exact ⟨rfl, HS.out.old⟩

theorem inB_none (x : Int) : inB 0 0 x = false := by
  rw [inB, Bool.and_eq_false_iff, decide_eq_false_iff_not, decide_eq_false_iff_not]
  omega

set_option maxHeartbeats 8000000 in
set_option maxRecDepth 100000 in
theorem bumpNone_walk (x : Int) (w : World) : Calls Try.prog 4 #[.int .i64 x] w fun e w' => e = .returned (.bool true) ∧ Below w.heap.size w w' := by
  have HI := Lib.hid (inB_none x)
  go_enter Try.func4, Try.ntmps4
  go_wp2_with fail
  refine (bTake_nil x w).mono ?_
  rintro e w1 ⟨rfl, b1⟩
  go_wp2_with fail
  refine (bBegin_nil _).mono ?_
  rintro e w2 ⟨rfl, b2⟩
  go_wp2_with fail
  refine (awake_any _).mono ?_
  rintro e w3 ⟨rfl, b3⟩
  go_wp2_with fail
  refine (bFlip_nil _).mono ?_
  rintro e w4 ⟨rfl, b4⟩
  go_wp2_with fail
  refine (bDrop_nil _).mono ?_
  rintro e w5 ⟨rfl, b5⟩
  go_wp2_with fail
  refine (bIn_nil x _).mono ?_
  rw [HI.out]
  rintro e w6 ⟨rfl, b6⟩
  go_wp2_with fail
  refine (bFrom_nil x _).mono ?_
  rw [HI.out]
  rintro e w7 ⟨rfl, b7⟩
  go_wp2_with fail
  refine (bUsed_nil _).mono ?_
  rintro e w8 ⟨rfl, b8⟩
  go_wp2_with fail
  refine (bLeft_nil _).mono ?_
  rintro e w9 ⟨rfl, b9⟩
  go_wp2_with fail
  refine (bRoom_nil _).mono ?_
  rintro e w10 ⟨rfl, b10⟩
  go_wp2
  go_ret
  exact ⟨rfl, below_trans b1 (below_trans b2 (below_trans b3 (below_trans b4 (below_trans b5 (below_trans b6 (below_trans b7 (below_trans b8 (below_trans b9 b10))))))))⟩
end Go.Proofs.Ytbpkoaojhcaahaa

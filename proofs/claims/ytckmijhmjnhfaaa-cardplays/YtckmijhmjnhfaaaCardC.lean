/- Marks that were made since a world; awake; the walk of CardNone. -/
import Derived.Test.YtckmijhmjnhfaaaCardB
namespace Go.Proofs.Ytckmijhmjnhfaaa
open Go.RowKit

/-- Marks made since w0; nothing older has turned. -/
structure Ses (w0 w : World) (b mb : Nat) (F W C : Int) (ms : List Bool) : Prop where
  is : IsTb w b mb F W C ms
  old : Below w0.heap.size w0 w
  ge : w0.heap.size ≤ b ∧ w0.heap.size ≤ mb

section
variable {w0 w w' : World} {b mb : Nat} {F W C : Int} {ms ks : List Bool}
theorem Ses.keep (h : Ses w0 w b mb F W C ms) (k : Below w.heap.size w w') : Ses w0 w' b mb F W C ms := ⟨h.is.keep k, below_trans h.old k, h.ge⟩
theorem Ses.step (h : Ses w0 w b mb F W C ms) (k : Tn b mb F W C ks w w') : Ses w0 w' b mb F W C ks :=
  ⟨k.is, Below.frm h.old k.frm h.old.size (fun i hi e => by have := h.ge.2; omega), h.ge⟩
end

theorem first_awake : FirstA [true, false, true] 1 2 true := by
  refine Or.inl ⟨2, rfl, rfl, by omega, rfl, fun i h1 h2 => ?_⟩
  obtain rfl : i = 1 := by omega
  rfl

set_option maxHeartbeats 8000000 in
set_option maxRecDepth 100000 in
theorem awake_any (w : World) : Calls Try.prog 8 #[] w fun e w' => e = .returned (.bool true) ∧ Below w.heap.size w w' := by
  go_enter Try.func8, Try.ntmps8
  go_wp2_with fail
  refine (cNew_any 10 20 8 w).mono ?_
  rintro e w1 ⟨b, mb, rfl, g1, g2, ⟨N, hN, i1⟩, b1⟩
  obtain rfl : N = 3 := by have h3 : (N : Int) = 3 := hN; omega
  clear hN
  have HS : Hid (Ses w w1 b mb 10 20 8 [false, false, false]) := Lib.hid ⟨i1, b1, g1, g2⟩
  clear i1 b1 g1 g2
  go_wp2_with fail
  refine (cMark_yes b mb 10 20 8 _ _ 17 0 HS.out.is (by omega) (by omega) (by decide)).mono ?_
  rintro e w2 ⟨rfl, t1⟩
  have HS : Hid (Ses w w2 b mb 10 20 8 [true, false, false]) := Lib.hid (HS.out.step t1)
  clear t1
  go_wp2_with fail
  refine (cMark_yes b mb 10 20 8 _ _ 29 2 HS.out.is (by omega) (by omega) (by decide)).mono ?_
  rintro e w3 ⟨rfl, t1⟩
  have HS : Hid (Ses w w3 b mb 10 20 8 [true, false, true]) := Lib.hid (HS.out.step t1)
  clear t1
  go_wp2_with fail
  refine (cMark_no b mb 10 20 8 _ _ 30 HS.out.is (by omega) (by omega)).mono ?_
  rintro e w4 ⟨rfl, b1⟩
  have HS := Lib.hid (HS.out.keep b1)
  clear b1
  go_wp2_with fail
  refine (cMark_no b mb 10 20 8 _ _ 9 HS.out.is (by omega) (by omega)).mono ?_
  rintro e w5 ⟨rfl, b1⟩
  have HS := Lib.hid (HS.out.keep b1)
  clear b1
  go_wp2_with fail
  refine (cFirst_any b mb 10 20 8 _ _ 1 HS.out.is (by omega)).mono ?_
  rintro e w6 ⟨r, ok, he, hf, rfl⟩
  have hone := hf.one first_awake
  obtain ⟨rfl, rfl⟩ := hone
  subst he
  clear hf
  go_wp2_with fail
  refine (cPart_yes b mb 10 20 8 _ _ 2 HS.out.is (by omega) (by simp)).mono ?_
  rintro e w7 ⟨he, b1⟩
  obtain rfl : e = .returned (.tuple #[.int .i64 26, .int .i64 30]) := he
  have HS := Lib.hid (HS.out.keep b1)
  clear b1
  go_wp2_with fail
  refine (cMarked_yes b mb 10 20 8 _ _ 10 0 true HS.out.is (by omega) (by omega) (by decide) rfl).mono ?_
  rintro e w8 ⟨rfl, b1⟩
  have HS := Lib.hid (HS.out.keep b1)
  clear b1
  go_wp2_with fail
  refine (cMarked_yes b mb 10 20 8 _ _ 18 1 false HS.out.is (by omega) (by omega) (by decide) rfl).mono ?_
  rintro e w9 ⟨rfl, b1⟩
  have HS := Lib.hid (HS.out.keep b1)
  clear b1
  go_wp2_with fail
  refine (cCount_any b mb 10 20 8 _ _ HS.out.is).mono ?_
  rintro e w10 ⟨he, rfl⟩
  obtain rfl : e = .returned (.int .i64 2) := he
  go_wp2_with fail
  refine (cClear_yes b mb 10 20 8 _ _ 0 true HS.out.is rfl).mono ?_
  rintro e w11 ⟨rfl, t1⟩
  have HS : Hid (Ses w w11 b mb 10 20 8 [false, false, true]) := Lib.hid (HS.out.step t1)
  clear t1
  go_wp2_with fail
  refine (cClear_yes b mb 10 20 8 _ _ 0 false HS.out.is rfl).mono ?_
  rintro e w12 ⟨rfl, t1⟩
  have HS : Hid (Ses w w12 b mb 10 20 8 [false, false, true]) := Lib.hid (HS.out.step t1)
  clear t1
  go_wp2_with fail
  refine (cut_any 1 0 5 _).mono ?_
  rintro e w99 ⟨he, rfl⟩
  obtain rfl : e = .returned (.int .i64 1) := he
  go_wp2
  go_ret
  exact ⟨rfl, HS.out.old⟩

set_option maxHeartbeats 8000000 in
set_option maxRecDepth 100000 in
theorem cardNone_walk (x : Int) (w : World) : Calls Try.prog 5 #[.int .i64 x] w fun e w' => e = .returned (.bool true) ∧ Below w.heap.size w w' := by
  go_enter Try.func5, Try.ntmps5
  go_wp2_with fail
  refine (cFirst_nil w x).mono ?_
  rintro e w1 ⟨rfl, rfl⟩
  go_wp2_with fail
  refine (cPart_nil _ x).mono ?_
  rintro e w1 ⟨rfl, rfl⟩
  go_wp2_with fail
  refine (awake_any _).mono ?_
  rintro e w3 ⟨rfl, b3⟩
  go_wp2_with fail
  refine (cMark_nil _ x).mono ?_
  rintro e w4 ⟨rfl, b4⟩
  go_wp2_with fail
  refine (cMarked_nil _ x).mono ?_
  rintro e w5 ⟨rfl, b5⟩
  go_wp2_with fail
  refine (cClear_nil _ x).mono ?_
  rintro e w6 ⟨rfl, rfl⟩
  go_wp2_with fail
  refine (cCount_nil _).mono ?_
  rintro e w6 ⟨rfl, rfl⟩
  go_wp2
  go_ret
  exact ⟨rfl, below_trans b3 (below_trans b4 b5)⟩
end Go.Proofs.Ytckmijhmjnhfaaa

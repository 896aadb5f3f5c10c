/- awake of layer 12, TableNone. -/
import Derived.Test.YtddgbhdfbkkfjaaTbB
import Derived.Test.YtddgbhdfbkkfjaaIntsQ
namespace Go.Proofs.Ytddgbhdfbkkfjaa
open Go.RowKit

theorem tb_noZ {a c : Nat} : ∀ k, noZ k → a ≤ k ∧ k < c := fun _ h => h.elim

theorem tbQu_new (w : World) (xs : List Int) (h : xs.length ≤ maxLen) : Qu (w.alloc (.cells (xs.map (Value.int .i64)).toArray 3)) (some ⟨w.heap.size, 0, none⟩) xs.length xs.length xs :=
  ⟨rfl, Nat.le_refl _, h, .inr ⟨w.heap.size, 0, _, rfl, Blk.new w _ _, by simp, fun i x hx => by simp [hx]⟩⟩

set_option maxHeartbeats 4000000 in
theorem tbAwake_walk (w : World) : Calls Try.prog 12 #[] w fun e w' => e = .returned (.bool true) ∧ Below w.heap.size w w' := by
  go_enter Try.func12, Try.ntmps12
  go_wp2_with fail
  refine (hz_new (Z := noZ) 3 (Below.refl _ w) tb_noZ).mono ?_
  rintro e w1 ⟨b, rfl, s, _⟩
  have H : Hid (Hz w w1 noZ b [0, 0, 0]) := Lib.hid s
  clear s
  unfold tbP
  go_wp2_with fail
  refine (hz_set_yes H.out 1 (by decide) 9).mono ?_
  rintro e w2 ⟨rfl, s, _⟩
  have H : Hid (Hz w w2 noZ b [0, 9, 0]) := Lib.hid s
  clear s
  go_wp2_with fail
  refine (hz_get_yes H.out 1 (x := 9) rfl).mono ?_
  rintro e w3 ⟨rfl, rfl⟩
  go_wp2_with fail
  refine (hz_set_no H.out (x := 3) (.inr (by decide)) 1).mono ?_
  rintro e w3 ⟨rfl, rfl⟩
  go_wp2_with fail
  refine (hz_all H.out (n := 3) rfl).mono ?_
  rintro e w8 ⟨A', c', rfl, q, bb, _⟩
  have H := Lib.hid ((H.out.keep bb).keep ((Below.refl _ _).alloc (Nat.le_refl _) (.cells #[.int .i64 0, .int .i64 9, .int .i64 0] 3)))
  have Q := Lib.hid (q.keep ((Below.refl _ _).alloc (Nat.le_refl _) (.cells #[.int .i64 0, .int .i64 9, .int .i64 0] 3)))
  clear q bb
  go_wp2_with fail
  refine (ints_qu _ _ _ _ _ _ _ Q.out (tbQu_new w8 [0, 9, 0] (by decide)) (by decide)).mono ?_
  rintro e w9 ⟨rfl, bb⟩
  have H := Lib.hid (H.out.keep bb)
  clear bb Q
  go_wp2
  go_ret
  exact ⟨rfl, H.out.bel⟩

set_option maxHeartbeats 4000000 in
theorem tableNone_walk (h at_ : Int) (w : World) : Calls Try.prog 4 #[.int .i64 h, .int .i64 at_] w fun e w' => e = .returned (.bool true) ∧ Below w.heap.size w w' := by
  go_enter Try.func4, Try.ntmps4
  go_wp2_with fail
  refine (tbGet_nil h w).mono ?_
  rintro e w1 ⟨rfl, rfl⟩
  go_wp2_with fail
  refine (tbAwake_walk _).mono ?_
  rintro e w1 ⟨rfl, bb⟩
  have B := Lib.hid bb
  clear bb
  go_wp2_with fail
  refine (tbSet_nil h w1 at_).mono ?_
  rintro e w2 ⟨rfl, rfl⟩
  go_wp2_with fail
  refine (tbAll_nil w1).mono ?_
  rintro e w2 ⟨rfl, rfl⟩
  go_wp2
  go_ret
  exact ⟨rfl, B.out⟩
end Go.Proofs.Ytddgbhdfbkkfjaa

/- Contracts of the program's buffer: New, Put, Take, Len, All; of none, too. -/
import Derived.Test.YtfjojpfknjdjiaaBufB
import Derived.Test.YtfjojpfknjdjiaaCutI
namespace Go.Proofs.Ytfjojpfknjdjiaa
open Go.RowKit

set_option maxHeartbeats 1000000 in
theorem bfNew_any (m : Int) (w : World) :
    Calls Try.prog 24 #[.int .i64 m] w fun e w' => e = .returned (bfP w.heap.size) ∧ IsBuf w' w.heap.size (cutI m 0 1048576) none 0 0 [] ∧ Below w.heap.size w w' := by
  have key := Lib.hid (show ∀ K : Int, cutI m 0 1048576 = K → IsBuf (w.alloc (.cells #[.slice none 0 0, .int .i64 K] 69)) w.heap.size (cutI m 0 1048576) none 0 0 [] from by
    rintro _ rfl
    exact ⟨Blk.new _ _ _, Qu.nil _, (cutI_in (by decide)).1, (cutI_in (by decide)).2, (cutI_in (by decide)).1⟩)
  go_enter Try.func24, Try.ntmps24
  go_wp2
  all_goals
    go_ret
    exact ⟨rfl, key.out _ (by unfold cutI; split <;> (try split) <;> omega), (Below.refl _ _).alloc (Nat.le_refl _) _⟩

section
variable (b : Nat) (M : Int) (A : Option Addr) (n c : Nat) (xs : List Int) (x : Int) (w : World)

set_option maxHeartbeats 1000000 in
theorem bfPut_no (h : IsBuf w b M A n c xs) (hn : M ≤ n) :
    Calls Try.prog 27 #[bfP b, .int .i64 x] w fun e w' => e = .returned (.bool false) ∧ Below w.heap.size w w' := by
  have H := Lib.hid (rput_no b M A n c xs x w h hn)
  clear h hn
  go_enter Try.func27, Try.ntmps27
  go_wp2_with fail
  refine H.out.mono ?_
  rintro e w1 ⟨rfl, b1⟩
  have B := Lib.hid b1
  clear b1
  go_wp2
  go_ret
  exact ⟨rfl, B.out⟩

set_option maxHeartbeats 1000000 in
theorem bfPut_yes (h : IsBuf w b M A n c xs) (hn : (n : Int) < M) :
    Calls Try.prog 27 #[bfP b, .int .i64 x] w fun e w' => e = .returned (.bool true) ∧ ∃ A' c', IsBuf w' b M A' (n + 1) c' (xs ++ [x]) ∧ BufT b A A' w w' := by
  have H := Lib.hid (rput_yes b M A n c xs x w h hn)
  clear h hn
  go_enter Try.func27, Try.ntmps27
  go_wp2_with fail
  refine H.out.mono ?_
  rintro e w1 ⟨rfl, b1⟩
  have B := Lib.hid b1
  clear b1
  go_wp2
  go_ret
  exact ⟨rfl, B.out⟩

set_option maxHeartbeats 1000000 in
theorem bfPut_nil : Calls Try.prog 27 #[.pointer none, .int .i64 x] w fun e w' => e = .returned (.bool false) ∧ w = w' := by
  go_enter Try.func27, Try.ntmps27
  go_wp2
  go_ret
  exact ⟨rfl, rfl⟩

set_option maxHeartbeats 1000000 in
theorem bfTake_no (h : IsBuf w b M A 0 c []) :
    Calls Try.prog 29 #[bfP b] w fun e w' => e = .returned (.tuple #[.int .i64 0, .bool false]) ∧ w = w' := by
  have H := Lib.hid (rtake_no b M A c w h)
  clear h
  go_enter Try.func29, Try.ntmps29
  go_wp2_with fail
  refine H.out.mono ?_
  rintro e w1 ⟨rfl, rfl⟩
  go_wp2
  go_ret2
  exact ⟨rfl, rfl⟩

set_option maxHeartbeats 1000000 in
theorem bfTake_yes (h : IsBuf w b M A (n + 1) c (x :: xs)) :
    Calls Try.prog 29 #[bfP b] w fun e w' => e = .returned (.tuple #[.int .i64 x, .bool true]) ∧ ∃ A' c', IsBuf w' b M A' n c' xs ∧ BufT b A A' w w' := by
  have H := Lib.hid (rtake_yes b M A n c x xs w h)
  clear h
  go_enter Try.func29, Try.ntmps29
  go_wp2_with fail
  refine H.out.mono ?_
  rintro e w1 ⟨rfl, b1⟩
  have B := Lib.hid b1
  clear b1
  go_wp2
  go_ret2
  exact ⟨rfl, B.out⟩

set_option maxHeartbeats 1000000 in
theorem bfTake_nil : Calls Try.prog 29 #[.pointer none] w fun e w' => e = .returned (.tuple #[.int .i64 0, .bool false]) ∧ w = w' := by
  go_enter Try.func29, Try.ntmps29
  go_wp2
  go_ret2
  exact ⟨rfl, rfl⟩

set_option maxHeartbeats 1000000 in
theorem bfLen_any (h : IsBuf w b M A n c xs) :
    Calls Try.prog 25 #[bfP b] w fun e w' => e = .returned (.int .i64 n) ∧ w = w' := by
  have H := Lib.hid (rcount_any b M A n c xs w h)
  clear h
  go_enter Try.func25, Try.ntmps25
  go_wp2_with fail
  refine H.out.mono ?_
  rintro e w1 ⟨rfl, rfl⟩
  go_wp2
  go_ret
  exact ⟨rfl, rfl⟩

set_option maxHeartbeats 1000000 in
theorem bfLen_nil : Calls Try.prog 25 #[.pointer none] w fun e w' => e = .returned (.int .i64 0) ∧ w = w' := by
  go_enter Try.func25, Try.ntmps25
  go_wp2
  go_ret
  exact ⟨rfl, rfl⟩


end
end Go.Proofs.Ytfjojpfknjdjiaa

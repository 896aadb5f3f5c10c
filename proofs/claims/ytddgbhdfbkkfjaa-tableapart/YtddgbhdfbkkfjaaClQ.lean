/- A slice compared with nil; slices.Clone of a slice of ints. -/
import Derived.Test.YtddgbhdfbkkfjaaQuB
import Derived.Deep.QuietTactic
import Derived.BigQuiet
import Derived.BigRegion
import Derived.IntWalk
namespace Go.Proofs.Ytddgbhdfbkkfjaa
open Go.RowKit

set_option maxRecDepth 100000 in
/-- A slice beside nil. -/
theorem eq_nilSlice (a : Addr) (n c : Nat) (v : World) : Sem.run Try.prog (binOp .eql 22 (.slice (some a) n c) (.slice none 0 0)) v = .ok (.bool false) v := rfl
set_option maxRecDepth 100000 in
theorem eq_nilNil (v : World) : Sem.run Try.prog (binOp .eql 22 (.slice none 0 0) (.slice none 0 0)) v = .ok (.bool true) v := rfl

section
variable (A : Option Addr) (n c : Nat) (xs : List Int) (w : World)

set_option maxHeartbeats 2000000 in
theorem clone_qu (h : Qu w A n c xs) (few : n ≤ 1048576) :
    Calls Try.prog 14 #[.slice A n c] w fun e w' => ∃ A' c', e = .returned (.slice A' n c') ∧ Qu w' A' n c' xs ∧ Below w.heap.size w w' ∧ ∀ k, blkOf A' = some k → w.heap.size ≤ k := by
  have hA := h.lies
  have Q := Lib.hid (h.keep ((Below.refl _ _).alloc (Nat.le_refl _) (.cells #[] 3)))
  have G := Lib.hid (Blk.new w #[] 3)
  have H := Lib.hid h
  rcases hA with ⟨rfl, rfl⟩ | ⟨g, off, cs, rfl, _, _, _⟩
  · obtain rfl : n = 0 := by have := h.le; omega
    have en := eq_nilNil
    clear h Q G
    go_enter Try.func14, Try.ntmps14
    go_wp2
    go_ret
    exact ⟨_, _, rfl, H.out, Below.refl _ _, fun k hk => by cases hk⟩
  · have en := eq_nilSlice
    clear h H
    go_enter Try.func14, Try.ntmps14
    go_wp2_with (first
      | (at_builtin; (refine wpList_clone_qu _ rfl _ _ rfl Q.out few w.heap.size G.out rfl rfl ?_))
      | fail)
    intro A' c' w2 q bb hf
    have Q2 := Lib.hid (And.intro q (And.intro (((Below.refl _ w).alloc (Nat.le_refl _) (.cells #[] 3)).trans (bb.mono (by omega))) (show ∀ k, blkOf A' = some k → w.heap.size ≤ k from fun k hk => by
      rcases hf k hk with rfl | h
      · exact Nat.le_refl _
      · omega)))
    clear q bb hf Q G
    go_wp2
    go_ret
    exact ⟨A', c', rfl, Q2.out.1, Q2.out.2.1, Q2.out.2.2⟩
end
end Go.Proofs.Ytddgbhdfbkkfjaa


/- Contracts of the document's graph: Do, idle work, forced cycles, and what is no entry. -/
import Derived.Test.YtjjjeeffllelaaaRgI
namespace Go.Proofs.Ytjjjeeffllelaaa
open Go.RowKit

theorem doR_new {w : World} {g : Nat} {S : Nat → Prop} {G : Gr} (r : Rg w g S G) (k a b c v e : Int) : DoR w g S G e false 0 0 (.returned (anV e false 0 0)) ((w.alloc (stB k a b c v)).alloc (.cells #[.int .i64 e, .bool false, .int .i64 0, .int .u64 0] 30)) := by
  have al : Below w.heap.size w ((w.alloc (stB k a b c v)).alloc (.cells #[.int .i64 e, .bool false, .int .i64 0, .int .u64 0] 30)) := ((Below.refl _ _).alloc (Nat.le_refl _) _).alloc (by simp) _
  exact ⟨rfl, S, r.keep al, Mv.of_below al⟩

set_option maxRecDepth 100000 in
set_option maxHeartbeats 8000000 in
theorem rgDo_idle (w : World) (g : Nat) (S : Nat → Prop) (G : Gr) (k a b c v : Int) (hk : k = 11 ∨ k = 12) (r : Rg w g S G) :
    Calls Try.prog 12 #[.pointer (some ⟨g, 0, none⟩), sgV k a b c v] w fun e w' => DoR w g S G (if a = 0 ∨ a = 1 then 0 else 1) false 0 0 e w' := by
  have H0 := Lib.hid (doR_new r k a b c v 0)
  have H1 := Lib.hid (doR_new r k a b c v 1)
  clear r
  rcases (show a = 0 ∨ a = 1 ∨ (¬ a = 0 ∧ ¬ a = 1) from by omega) with rfl | rfl | ⟨h0, h1⟩
  · rw [if_pos (.inl rfl)]
    rcases hk with rfl | rfl
    all_goals
      go_enter Try.func12, Try.ntmps12
      go_wp2
      refine bodyPost_ret (v := anV 0 false 0 0) (by simp [results, Try.results12, go_sem]) rfl ?_
      exact H0.out
  · rw [if_pos (.inr rfl)]
    rcases hk with rfl | rfl
    all_goals
      go_enter Try.func12, Try.ntmps12
      go_wp2
      refine bodyPost_ret (v := anV 0 false 0 0) (by simp [results, Try.results12, go_sem]) rfl ?_
      exact H0.out
  · rw [if_neg (by omega)]
    have q0 : (a == 0) = false := by simp [h0]
    have q1 : (a == 1) = false := by simp [h1]
    rcases hk with rfl | rfl
    all_goals
      go_enter Try.func12, Try.ntmps12
      go_wp2
      refine bodyPost_ret (v := anV 1 false 0 0) (by simp [results, Try.results12, go_sem]) rfl ?_
      exact H1.out

set_option maxRecDepth 100000 in
set_option maxHeartbeats 8000000 in
theorem rgDo_other (w : World) (g : Nat) (S : Nat → Prop) (G : Gr) (k a b c v : Int) (hk : k < 1 ∨ 12 < k) (r : Rg w g S G) :
    Calls Try.prog 12 #[.pointer (some ⟨g, 0, none⟩), sgV k a b c v] w fun e w' => DoR w g S G 1 false 0 0 e w' := by
  have H1 := Lib.hid (doR_new r k a b c v 1)
  have k1 : ¬ k = 1 := by omega
  have k2 : ¬ k = 2 := by omega
  have k3 : ¬ k = 3 := by omega
  have k4 : ¬ k = 4 := by omega
  have k5 : ¬ k = 5 := by omega
  have k6 : ¬ k = 6 := by omega
  have k7 : ¬ k = 7 := by omega
  have k8 : ¬ k = 8 := by omega
  have k9 : ¬ k = 9 := by omega
  have k10 : ¬ k = 10 := by omega
  have k11 : ¬ k = 11 := by omega
  have k12 : ¬ k = 12 := by omega
  clear r hk
  go_enter Try.func12, Try.ntmps12
  go_wp2
  refine bodyPost_ret (v := anV 1 false 0 0) (by simp [results, Try.results12, go_sem]) rfl ?_
  exact H1.out
end Go.Proofs.Ytjjjeeffllelaaa

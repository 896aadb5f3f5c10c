
/- The document's graph: all entries that change something, as one contract. -/
import Derived.Test.YtjjjeeffllelaaaRgL
import Derived.Test.YtjjjeeffllelaaaRgH
import Derived.Test.YtjjjeeffllelaaaRgK
namespace Go.Proofs.Ytjjjeeffllelaaa
open Go.RowKit

theorem rgDo_turns (w : World) (g : Nat) (S : Nat → Prop) (G : Gr) (k a b c v : Int) (hk : turnsK k) (hb0 : -9223372036854775808 ≤ b) (hb1 : b ≤ 9223372036854775807) (few : G.ns.length < 1048576) (r : Rg w g S G) :
    Calls Try.prog 12 #[.pointer (some ⟨g, 0, none⟩), sgV k a b c v] w fun e w' => DoR w g S (G.change k a b c v).2 (G.change k a b c v).1 false 0 0 e w' := by
  refine rgDo_change w g S G k a b c v hk r fun w1 r1 => ?_
  rcases hk with rfl | rfl | rfl | rfl | rfl | rfl
  · cases hh : G.has a
    · exact rgMake_no w1 g S G a b c v r1 (.inl hh) hb0 hb1
    · by_cases bad : b < 0 ∨ c < 0 ∨ G.lg < b ∨ G.lg - b < c
      · exact rgMake_no w1 g S G a b c v r1 (.inr bad) hb0 hb1
      · exact rgMake_yes w1 g S G a b c v r1 hh (by omega) (by omega) (by omega) (by omega) few
  · exact rgGet w1 g S G a b c v r1
  · exact rgSet w1 g S G a b c v r1
  · exact rgWrite w1 g S G a b c v r1
  · exact rgClear w1 g S G a b c v r1
  · exact rgCopy w1 g S G a b c v r1
end Go.Proofs.Ytjjjeeffllelaaa

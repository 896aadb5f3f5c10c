/- Blocks that a call leaves as they were; of no program's own. -/
import Derived.Test.YtjjjeeffllelaaaQuA
namespace Go.Proofs.Ytjjjeeffllelaaa
open Go.RowKit

/-- Blocks of Z are as they were. -/
def Kp (Z : Nat → Prop) (w w' : World) : Prop := Frm (fun k => ¬ Z k) w w'

theorem Kp.of_below {Z : Nat → Prop} {w w' : World} (h : Below w.heap.size w w') : Kp Z w w' := Frm.of_below h
theorem Kp.trans {Z : Nat → Prop} {a b c : World} (h : Kp Z a b) (k : Kp Z b c) : Kp Z a c := Frm.trans h k fun _ _ e => e
theorem Blk.kp {Z : Nat → Prop} {w w' : World} {b : Nat} {cs : Array Value} {t : TypeId} (h : Blk w b cs t) (k : Kp Z w w') (hz : Z b) : Blk w' b cs t := h.frm k fun e => e hz
theorem Qu.kp {Z : Nat → Prop} {w w' : World} {A : Option Addr} {n c : Nat} {xs : List Int} (h : Qu w A n c xs) (k : Kp Z w w') (hz : ∀ k, blkOf A = some k → Z k) : Qu w' A n c xs := h.frm k fun j hj e => e (hz j hj)
/-- Nothing is beside it. -/
abbrev noZ : Nat → Prop := fun _ => False
end Go.Proofs.Ytjjjeeffllelaaa

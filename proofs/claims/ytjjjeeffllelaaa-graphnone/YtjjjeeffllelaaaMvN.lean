
/- What has turned where an object holds blocks of its own; of no program's own. -/
import Derived.Test.YtjjjeeffllelaaaFrm
namespace Go.Proofs.Ytjjjeeffllelaaa
open Go.RowKit

/-- Of what was there only blocks of S have turned; what is held now was of S, or is new. -/
structure Mv (S S' : Nat → Prop) (w w' : World) : Prop where
  frm : Frm S w w'
  at_ : ∀ k, S' k → S k ∨ w.heap.size ≤ k

section
variable {S S' S'' : Nat → Prop} {w w' w'' : World}
theorem Mv.of_below (h : Below w.heap.size w w') : Mv S S w w' := ⟨Frm.of_below h, fun _ hk => .inl hk⟩
theorem Mv.trans (h : Mv S S' w w') (k : Mv S' S'' w' w'') : Mv S S'' w w'' :=
  ⟨h.frm.trans k.frm fun i hi e => (h.at_ i e).resolve_right (by omega), fun i e => (k.at_ i e).elim (h.at_ i) fun h2 => .inr (Nat.le_trans h.frm.size h2)⟩
theorem Mv.pre (f : Below w.heap.size w w') (k : Mv S S' w' w'') : Mv S S' w w'' := (Mv.of_below f).trans k
theorem Mv.post (h : Mv S S' w w') (f : Below w'.heap.size w' w'') : Mv S S' w w'' := h.trans (Mv.of_below f)
end
end Go.Proofs.Ytjjjeeffllelaaa

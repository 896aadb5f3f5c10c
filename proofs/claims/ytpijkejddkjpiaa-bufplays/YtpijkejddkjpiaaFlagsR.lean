/- A slice of flags as an argument, and as it is read later; of no program's own functions. -/
import Derived.Test.YtpijkejddkjpiaaLists
import Derived.Deep.Grids
namespace Go.Proofs.Ytpijkejddkjpiaa
open Go.RowKit Go.ChangeShapes Go.WideShapes Go.Deep

/-- A slice of flags as it came in: nil let in. -/
def RdB (w : World) (A : Option Addr) (n : Nat) : Prop :=
  ∀ i, i < n → ∃ ad v, A = some ad ∧ ∀ w', Below w.heap.size w w' → w'.cell? (ad.add i) = some (.bool v)

theorem open_flags {H : Type} {enc : TypeId × Value → H} {P : Program} {w : World} {r : Reach} {b0 : Nat} {t e : TypeId} {v : Value} {d : DataW H} {ps : List MemPlace}
    (ht : P.underlying t = some (.slice e)) (he : P.underlying e = some .bool) (hc : P.cellsOf e = 1) (hv : Value.okWide P w r b0 t v) (h : DataW.Trod enc P w 0 (fun _ => true) true t v d ps) :
    ∃ A n c, v = .slice A n c ∧ n ≤ c ∧ c ≤ maxLen ∧ RdB w A n := by
  obtain ⟨A, n, c, rfl⟩ := okWide_slice ht hv
  obtain ⟨fuel, hf⟩ := h
  rcases open_bools ht he hc hf with ⟨h0, _⟩ | ⟨a, len, cap, B, h0, _, hl, hm, _, hcell⟩
  · simp [Value.cells] at h0
    obtain ⟨rfl, rfl, rfl⟩ := h0
    exact ⟨none, 0, 0, rfl, Nat.le_refl _, Nat.zero_le _, fun i hi => absurd hi (by omega)⟩
  · simp [Value.cells] at h0
    obtain ⟨rfl, rfl, rfl⟩ := h0
    refine ⟨some a, n, c, rfl, hl, hm, fun i hi => ⟨a, B i, rfl, fun w' hb => ?_⟩⟩
    have hcl := hcell i (by omega)
    have hlt := cell_lt hcl
    exact (hb.cell (p := a.add i) hlt).trans hcl
end Go.Proofs.Ytpijkejddkjpiaa

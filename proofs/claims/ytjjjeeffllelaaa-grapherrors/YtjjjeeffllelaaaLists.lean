
/- Lists, slices as arguments; of no program's own functions. -/
import Derived.Test.YtjjjeeffllelaaaFrm
import Derived.Laws.CopyOwn
import Derived.ChangeSlices
namespace Go.Proofs.Ytjjjeeffllelaaa
open Go.RowKit Go.ChangeShapes Go.WideShapes

theorem getElem?_splice {α : Type} (L : List α) (off : Nat) (cs : List α) (t : Nat) (h : off + cs.length ≤ L.length) :
    (splice L off cs)[t]? = if off ≤ t ∧ t < off + cs.length then cs[t - off]? else L[t]? := by
  unfold splice
  by_cases h1 : t < off
  · rw [if_neg (by omega), List.getElem?_append_left (by simp; omega), List.getElem?_take, if_pos h1]
  · rw [List.getElem?_append_right (by simp; omega)]
    have e : (List.take off L).length = off := by simp; omega
    rw [e]
    by_cases h2 : t < off + cs.length
    · rw [if_pos ⟨by omega, h2⟩, List.getElem?_append_left (by omega)]
    · rw [if_neg (by omega), List.getElem?_append_right (by omega), List.getElem?_drop]
      congr 1
      omega

theorem block_of_add (a : Addr) (n : Nat) : (a.add n).block = a.block := by unfold Addr.add; split <;> rfl

/-- A slice of numbers as it came in: its numbers, nil let in. -/
def Rd (k : IntKind) (w : World) (A : Option Addr) (n : Nat) (xs : List Int) : Prop :=
  xs.length = n ∧ ∀ i x, xs[i]? = some x → ∃ ad, A = some ad ∧ ad.block < w.heap.size ∧ w.cell? (ad.add i) = some (.int k x)

theorem Rd.at_ {k : IntKind} {w w' : World} {A : Option Addr} {n : Nat} {xs : List Int} (h : Rd k w A n xs) (hb : Below w.heap.size w w') {i : Nat} (hi : i < n) :
    ∃ ad x, A = some ad ∧ xs[i]? = some x ∧ w'.cell? (ad.add i) = some (.int k x) := by
  have hx := List.getElem?_eq_getElem (l := xs) (i := i) (by have := h.1; omega)
  obtain ⟨ad, e, hl, hc⟩ := h.2 i _ hx
  exact ⟨ad, _, e, hx, (hb.cell (p := ad.add i) (by rw [block_of_add]; exact hl)).trans hc⟩

theorem Rd.take {k : IntKind} {w : World} {A : Option Addr} {n : Nat} {xs : List Int} (h : Rd k w A n xs) (m : Nat) (hm : m ≤ n) : Rd k w A m (xs.take m) := by
  refine ⟨by rw [List.length_take, h.1]; omega, fun i x hx => ?_⟩
  rw [List.getElem?_take] at hx
  split at hx
  · exact h.2 i x hx
  · cases hx

theorem cell_lt {w : World} {p : Addr} {v : Value} (h : w.cell? p = some v) : p.block < w.heap.size := by
  rcases Nat.lt_or_ge p.block w.heap.size with hlt | hge
  · exact hlt
  · unfold World.cell? at h
    rw [Array.getElem?_eq_none hge] at h
    simp at h

theorem open_rd {H : Type} {enc : TypeId × Value → H} {P : Program} {w : World} {r : Reach} {b0 : Nat} {t e : TypeId} {k : IntKind} {v : Value} {d : DataW H} {ps : List MemPlace}
    (ht : P.underlying t = some (.slice e)) (he : P.underlying e = some (.int k)) (hc : P.cellsOf e = 1) (hv : Value.okWide P w r b0 t v) (h : DataW.Trod enc P w 0 (fun _ => true) true t v d ps) :
    ∃ A n c xs, v = .slice A n c ∧ n ≤ c ∧ c ≤ maxLen ∧ Rd k w A n xs ∧ ∀ x ∈ xs, (Lit.int k x).wf = true := by
  obtain ⟨A, n, c, rfl⟩ := okWide_slice ht hv
  obtain ⟨fuel, hf⟩ := h
  rcases open_ints ht he hc hf with ⟨h0, _⟩ | ⟨a, len, cap, zs, h0, _, hl, hm, hz, hx, hcell, hwf⟩
  · simp [Value.cells] at h0
    obtain ⟨rfl, rfl, rfl⟩ := h0
    exact ⟨none, 0, 0, [], rfl, Nat.le_refl _, Nat.zero_le _, ⟨rfl, fun i x hx => by simp at hx⟩, fun x hx => by simp at hx⟩
  · simp [Value.cells] at h0
    obtain ⟨rfl, rfl, rfl⟩ := h0
    simp only [if_true] at hz
    refine ⟨some a, n, c, zs.take n, rfl, hl, hm, ⟨by rw [List.length_take]; omega, fun i x hxi => ?_⟩, fun x hxm => hwf x (List.mem_of_mem_take hxm)⟩
    rw [List.getElem?_take] at hxi
    split at hxi
    · rename_i hin
      have hcl : w.cell? (a.add i) = some (.int k x) := by
        have := hcell i (by omega)
        rw [this, List.getD, hxi]; rfl
      exact ⟨a, rfl, by have := cell_lt hcl; rwa [block_of_add] at this, hcl⟩
    · cases hxi
end Go.Proofs.Ytjjjeeffllelaaa

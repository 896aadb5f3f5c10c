/- A slice of the acts of layer 11 as an argument. -/
import Derived.Test.YtbfgmpbbodlgiaaNums
namespace Go.Proofs.Ytbfgmpbbodlgiaa
open Go.RowKit Go.ChangeShapes Go.WideShapes Go.Deep

/-- A slice of acts (two numbers and a list each) as it came in: nil let in. -/
def RdAct11 (w : World) (A : Option Addr) (n : Nat) : Prop :=
  ∀ i, i < n → ∃ ad x0 x1 L m d ys, A = some ad ∧ m ≤ d ∧ d ≤ maxLen ∧ Rd .i64 w L m ys ∧ ∀ w', Below w.heap.size w w' →
    w'.cell? (ad.add (i * 3)) = some (.int .i64 x0) ∧ w'.cell? ⟨(ad.add (i * 3)).block, (ad.add (i * 3)).off + 1, none⟩ = some (.int .i64 x1) ∧ w'.cell? ⟨(ad.add (i * 3)).block, (ad.add (i * 3)).off + 2, none⟩ = some (.slice L m d)

/-- A slice of numbers in a cell. -/
theorem open_rd_cell {H : Type} {enc : TypeId × Value → H} {P : Program} {w : World} {t e : TypeId} {k : IntKind} {v : Value} {y : DataW H × List MemPlace} {fuel : Nat}
    (ht : P.underlying t = some (.slice e)) (he : P.underlying e = some (.int k)) (hc : P.cellsOf e = 1) (hf : DataW.trod enc P w 0 (fun _ => true) true fuel t [v] = some y) :
    ∃ A n c xs, v = .slice A n c ∧ n ≤ c ∧ c ≤ maxLen ∧ Rd k w A n xs := by
  rcases open_ints ht he hc hf with ⟨h0, _⟩ | ⟨a, len, cap, zs, h0, _, hl, hm, hz, hx, hcell, hwf⟩
  · simp at h0
    subst h0
    exact ⟨none, 0, 0, [], rfl, Nat.le_refl _, Nat.zero_le _, ⟨rfl, fun i x hx => by simp at hx⟩⟩
  · simp at h0
    subst h0
    simp only [if_true] at hz
    refine ⟨some a, len, cap, zs.take len, rfl, hl, hm, ⟨by rw [List.length_take]; omega, fun i x hxi => ?_⟩⟩
    rw [List.getElem?_take] at hxi
    split at hxi
    · rename_i hin
      have hcl : w.cell? (a.add i) = some (.int k x) := by
        have := hcell i (by omega)
        rw [this, List.getD, hxi]; rfl
      exact ⟨a, rfl, by have := cell_lt hcl; rwa [block_of_add] at this, hcl⟩
    · cases hxi

theorem open_acts11 {H : Type} {enc : TypeId × Value → H} {w : World} {r : Reach} {b0 : Nat} {v : Value} {d : DataW H} {p : List MemPlace}
    (hv : Value.okWide Try.prog w r b0 22 v) (h : DataW.Trod enc Try.prog w 0 (fun _ => true) true 22 v d p) :
    ∃ A n c, v = .slice A n c ∧ n ≤ c ∧ c ≤ maxLen ∧ RdAct11 w A n := by
  obtain ⟨A, n, c, rfl, hn, hc, hi⟩ := open_structs Try.underlying22 Try.underlying27 (by kernel_rfl) (by kernel_rfl) hv h
  refine ⟨A, n, c, rfl, hn, hc, fun i hin => ?_⟩
  obtain ⟨a, m, rfl, hf⟩ := hi i hin
  obtain ⟨v0, y0, e0, t0⟩ := hf 0 _ rfl
  obtain ⟨v1, y1, e1, t1⟩ := hf 1 _ rfl
  obtain ⟨v2, y2, e2, t2⟩ := hf 2 _ rfl
  obtain ⟨n0, h0, _, _⟩ := DataW.trod_int Try.underlying3 t0
  obtain ⟨n1, h1, _, _⟩ := DataW.trod_int Try.underlying3 t1
  obtain ⟨L, m2, d2, ys, rfl, lm, dm, rd⟩ := open_rd_cell Try.underlying25 Try.underlying3 (by kernel_rfl) t2
  simp only [List.cons.injEq, and_true] at h0 h1
  subst h0 h1
  have hlt : a.block < w.heap.size := by have := cell_lt e0; rwa [block_of_add] at this
  change w.cell? (a.add (i * 3 + 0)) = _ at e0
  change w.cell? (a.add (i * 3 + 1)) = _ at e1
  change w.cell? (a.add (i * 3 + 2)) = _ at e2
  rw [Nat.add_zero] at e0
  rw [add_more _ _ _ (by omega)] at e1 e2
  have eb : (a.add (i * 3)).block = a.block := block_of_add _ _
  exact ⟨a, n0, n1, L, m2, d2, ys, rfl, lm, dm, rd, fun w' hb => ⟨(hb.cell (p := a.add (i * 3)) (by rw [eb]; exact hlt)).trans e0,
    (hb.cell (p := ⟨(a.add (i * 3)).block, (a.add (i * 3)).off + 1, none⟩) (by rw [eb]; exact hlt)).trans e1, (hb.cell (p := ⟨(a.add (i * 3)).block, (a.add (i * 3)).off + 2, none⟩) (by rw [eb]; exact hlt)).trans e2⟩⟩
end Go.Proofs.Ytbfgmpbbodlgiaa


/- An entry of a script, and a slice of them, as arguments. -/
import Derived.Test.YtjjjeeffllelaaaNums
import Derived.Test.YtjjjeeffllelaaaRgD
namespace Go.Proofs.Ytjjjeeffllelaaa
open Go.RowKit Go.ChangeShapes Go.WideShapes Go.Deep

/-- A number of the kind int. -/
def InI (n : Int) : Prop := -9223372036854775808 ≤ n ∧ n ≤ 9223372036854775807

set_option maxRecDepth 100000 in
theorem open_step {H : Type} {enc : TypeId × Value → H} {w : World} {base : Nat} {spare : Nat → Bool} {held : Bool} {r : Reach} {b0 : Nat} {v : Value} {d : DataW H} {p : List MemPlace}
    (hv : Value.okWide Try.prog w r b0 33 v) (h : DataW.Trod enc Try.prog w base spare held 33 v d p) :
    ∃ k a b c x : Int, v = sgV k a b c x ∧ InI b ∧ InI c := by
  obtain ⟨l, rfl, hl, m, hf⟩ := open_cells Try.underlying33 (by kernel_rfl) (by kernel_rfl) hv h
  obtain ⟨c0, y0, e0, t0⟩ := hf 0 _ rfl
  obtain ⟨c1, y1, e1, t1⟩ := hf 1 _ rfl
  obtain ⟨c2, y2, e2, t2⟩ := hf 2 _ rfl
  obtain ⟨c3, y3, e3, t3⟩ := hf 3 _ rfl
  obtain ⟨c4, y4, e4, t4⟩ := hf 4 _ rfl
  obtain ⟨n0, h0, _, _⟩ := DataW.trod_int Try.underlying3 t0
  obtain ⟨n1, h1, _, _⟩ := DataW.trod_int Try.underlying3 t1
  obtain ⟨n2, h2, _, w2⟩ := DataW.trod_int Try.underlying3 t2
  obtain ⟨n3, h3, _, w3⟩ := DataW.trod_int Try.underlying3 t3
  obtain ⟨n4, h4, _, _⟩ := DataW.trod_int Try.underlying28 t4
  simp only [List.cons.injEq, and_true] at h0 h1 h2 h3 h4
  subst h0 h1 h2 h3 h4
  refine ⟨n0, n1, n2, n3, n4, ?_, bounds_int w2, bounds_int w3⟩
  have hl5 : l.length = 5 := hl
  match l, hl5 with
  | [a0, a1, a2, a3, a4], _ =>
    simp at e0 e1 e2 e3 e4
    subst e0 e1 e2 e3 e4
    rfl

/-- A slice of entries as it came in: nil let in. -/
def RdSt (w : World) (A : Option Addr) (n : Nat) : Prop :=
  ∀ i, i < n → ∃ ad k a b c x, A = some ad ∧ InI b ∧ InI c ∧ ∀ w', Below w.heap.size w w' →
    w'.cell? (ad.add (i * 5)) = some (.int .i64 k) ∧ w'.cell? ⟨(ad.add (i * 5)).block, (ad.add (i * 5)).off + 1, none⟩ = some (.int .i64 a) ∧ w'.cell? ⟨(ad.add (i * 5)).block, (ad.add (i * 5)).off + 2, none⟩ = some (.int .i64 b) ∧
    w'.cell? ⟨(ad.add (i * 5)).block, (ad.add (i * 5)).off + 3, none⟩ = some (.int .i64 c) ∧ w'.cell? ⟨(ad.add (i * 5)).block, (ad.add (i * 5)).off + 4, none⟩ = some (.int .u64 x)

set_option maxRecDepth 100000 in
theorem open_steps {H : Type} {enc : TypeId × Value → H} {w : World} {base : Nat} {spare : Nat → Bool} {held : Bool} {r : Reach} {b0 : Nat} {v : Value} {d : DataW H} {p : List MemPlace}
    (hv : Value.okWide Try.prog w r b0 22 v) (h : DataW.Trod enc Try.prog w base spare held 22 v d p) :
    ∃ A n c, v = .slice A n c ∧ n ≤ c ∧ c ≤ maxLen ∧ RdSt w A n := by
  obtain ⟨A, n, c, rfl, hn, hc, hi⟩ := open_structs Try.underlying22 Try.underlying33 (by kernel_rfl) (by kernel_rfl) hv h
  refine ⟨A, n, c, rfl, hn, hc, fun i hin => ?_⟩
  obtain ⟨a, m, rfl, hf⟩ := hi i hin
  obtain ⟨v0, y0, e0, t0⟩ := hf 0 _ rfl
  obtain ⟨v1, y1, e1, t1⟩ := hf 1 _ rfl
  obtain ⟨v2, y2, e2, t2⟩ := hf 2 _ rfl
  obtain ⟨v3, y3, e3, t3⟩ := hf 3 _ rfl
  obtain ⟨v4, y4, e4, t4⟩ := hf 4 _ rfl
  obtain ⟨n0, h0, _, _⟩ := DataW.trod_int Try.underlying3 t0
  obtain ⟨n1, h1, _, _⟩ := DataW.trod_int Try.underlying3 t1
  obtain ⟨n2, h2, _, w2⟩ := DataW.trod_int Try.underlying3 t2
  obtain ⟨n3, h3, _, w3⟩ := DataW.trod_int Try.underlying3 t3
  obtain ⟨n4, h4, _, _⟩ := DataW.trod_int Try.underlying28 t4
  simp only [List.cons.injEq, and_true] at h0 h1 h2 h3 h4
  subst h0 h1 h2 h3 h4
  have hlt : a.block < w.heap.size := by have := cell_lt e0; rwa [block_of_add] at this
  change w.cell? (a.add (i * 5 + 0)) = _ at e0
  change w.cell? (a.add (i * 5 + 1)) = _ at e1
  change w.cell? (a.add (i * 5 + 2)) = _ at e2
  change w.cell? (a.add (i * 5 + 3)) = _ at e3
  change w.cell? (a.add (i * 5 + 4)) = _ at e4
  rw [Nat.add_zero] at e0
  rw [add_more _ _ _ (by omega)] at e1 e2 e3 e4
  have eb : (a.add (i * 5)).block = a.block := block_of_add _ _
  exact ⟨a, n0, n1, n2, n3, n4, rfl, bounds_int w2, bounds_int w3, fun w' hb => ⟨(hb.cell (p := a.add (i * 5)) (by rw [eb]; exact hlt)).trans e0,
    (hb.cell (p := ⟨(a.add (i * 5)).block, (a.add (i * 5)).off + 1, none⟩) (by rw [eb]; exact hlt)).trans e1, (hb.cell (p := ⟨(a.add (i * 5)).block, (a.add (i * 5)).off + 2, none⟩) (by rw [eb]; exact hlt)).trans e2,
    (hb.cell (p := ⟨(a.add (i * 5)).block, (a.add (i * 5)).off + 3, none⟩) (by rw [eb]; exact hlt)).trans e3, (hb.cell (p := ⟨(a.add (i * 5)).block, (a.add (i * 5)).off + 4, none⟩) (by rw [eb]; exact hlt)).trans e4⟩⟩
end Go.Proofs.Ytjjjeeffllelaaa

/- A head as an argument: its numbers and flags, and that they fit their kinds. -/
import Derived.Test.YthhbamllnacklaaArgR
namespace Go.Proofs.Ythhbamllnacklaa
open Go.ChangeShapes Go.WideShapes Go.ChangeAt Go.RowKit Go.Deep

theorem open_head {H : Type} {enc : TypeId × Value → H} {w : World} {base : Nat} {spare : Nat → Bool} {held : Bool} {r : Reach} {b0 : Nat} {v : Value} {d : DataW H} {p : List MemPlace}
    (hv : Value.okWide Try.prog w r b0 24 v) (h : DataW.Trod enc Try.prog w base spare held 24 v d p) :
    ∃ (s pp a y : Int) (g n o : Bool), v = .agg #[.int .i64 s, .int .i64 pp, .int .i64 a, .int .i64 y, .bool g, .bool n, .bool o] := by
  obtain ⟨l, rfl, hl, m, hf⟩ := open_cells Try.underlying24 (by kernel_rfl) (by kernel_rfl) hv h
  obtain ⟨c0, y0, e0, t0⟩ := hf 0 _ rfl
  obtain ⟨c1, y1, e1, t1⟩ := hf 1 _ rfl
  obtain ⟨c2, y2, e2, t2⟩ := hf 2 _ rfl
  obtain ⟨c3, y3, e3, t3⟩ := hf 3 _ rfl
  obtain ⟨c4, y4, e4, t4⟩ := hf 4 _ rfl
  obtain ⟨c5, y5, e5, t5⟩ := hf 5 _ rfl
  obtain ⟨c6, y6, e6, t6⟩ := hf 6 _ rfl
  obtain ⟨n0, h0, _, _⟩ := DataW.trod_int Try.underlying3 t0
  obtain ⟨n1, h1, _, _⟩ := DataW.trod_int Try.underlying3 t1
  obtain ⟨n2, h2, _, _⟩ := DataW.trod_int Try.underlying3 t2
  obtain ⟨n3, h3, _, _⟩ := DataW.trod_int Try.underlying3 t3
  obtain ⟨n4, h4, _⟩ := DataW.trod_bool Try.underlying4 t4
  obtain ⟨n5, h5, _⟩ := DataW.trod_bool Try.underlying4 t5
  obtain ⟨n6, h6, _⟩ := DataW.trod_bool Try.underlying4 t6
  simp only [List.cons.injEq, and_true] at h0 h1 h2 h3 h4 h5 h6
  subst h0 h1 h2 h3 h4 h5 h6
  refine ⟨n0, n1, n2, n3, n4, n5, n6, ?_⟩
  have hl7 : l.length = 7 := hl
  match l, hl7 with
  | [a0, a1, a2, a3, a4, a5, a6], _ =>
    simp at e0 e1 e2 e3 e4 e5 e6
    subst e0 e1 e2 e3 e4 e5 e6
    rfl
end Go.Proofs.Ythhbamllnacklaa


/- A configuration as an argument: its thirteen numbers, and that they fit their kind. -/
import Derived.Test.YthfbhdffmipmpaaConfB
namespace Go.Proofs.Ythfbhdffmipmpaa
open Go.ChangeShapes Go.WideShapes Go.ChangeAt Go.RowKit Go.Deep

set_option maxRecDepth 100000 in
theorem open_conf {H : Type} {enc : TypeId × Value → H} {w : World} {base : Nat} {spare : Nat → Bool} {held : Bool} {r : Reach} {b0 : Nat} {v : Value} {d : DataW H} {p : List MemPlace}
    (hv : Value.okWide Try.prog w r b0 23 v) (h : DataW.Trod enc Try.prog w base spare held 23 v d p) :
    ∃ ha nu ps pz cd bf st tn lg mi ma na ja : Int, v = cfV ha nu ps pz cd bf st tn lg mi ma na ja := by
  obtain ⟨l, rfl, hl, m, hf⟩ := open_cells Try.underlying23 (by kernel_rfl) (by kernel_rfl) hv h
  obtain ⟨c0, y0, e0, t0⟩ := hf 0 _ rfl
  obtain ⟨c1, y1, e1, t1⟩ := hf 1 _ rfl
  obtain ⟨c2, y2, e2, t2⟩ := hf 2 _ rfl
  obtain ⟨c3, y3, e3, t3⟩ := hf 3 _ rfl
  obtain ⟨c4, y4, e4, t4⟩ := hf 4 _ rfl
  obtain ⟨c5, y5, e5, t5⟩ := hf 5 _ rfl
  obtain ⟨c6, y6, e6, t6⟩ := hf 6 _ rfl
  obtain ⟨c7, y7, e7, t7⟩ := hf 7 _ rfl
  obtain ⟨c8, y8, e8, t8⟩ := hf 8 _ rfl
  obtain ⟨c9, y9, e9, t9⟩ := hf 9 _ rfl
  obtain ⟨c10, y10, e10, t10⟩ := hf 10 _ rfl
  obtain ⟨c11, y11, e11, t11⟩ := hf 11 _ rfl
  obtain ⟨c12, y12, e12, t12⟩ := hf 12 _ rfl
  obtain ⟨n0, h0, _, _⟩ := DataW.trod_int Try.underlying3 t0
  obtain ⟨n1, h1, _, _⟩ := DataW.trod_int Try.underlying3 t1
  obtain ⟨n2, h2, _, _⟩ := DataW.trod_int Try.underlying3 t2
  obtain ⟨n3, h3, _, _⟩ := DataW.trod_int Try.underlying3 t3
  obtain ⟨n4, h4, _, _⟩ := DataW.trod_int Try.underlying3 t4
  obtain ⟨n5, h5, _, _⟩ := DataW.trod_int Try.underlying3 t5
  obtain ⟨n6, h6, _, _⟩ := DataW.trod_int Try.underlying3 t6
  obtain ⟨n7, h7, _, _⟩ := DataW.trod_int Try.underlying3 t7
  obtain ⟨n8, h8, _, _⟩ := DataW.trod_int Try.underlying3 t8
  obtain ⟨n9, h9, _, _⟩ := DataW.trod_int Try.underlying3 t9
  obtain ⟨n10, h10, _, _⟩ := DataW.trod_int Try.underlying3 t10
  obtain ⟨n11, h11, _, _⟩ := DataW.trod_int Try.underlying3 t11
  obtain ⟨n12, h12, _, _⟩ := DataW.trod_int Try.underlying3 t12
  simp only [List.cons.injEq, and_true] at h0 h1 h2 h3 h4 h5 h6 h7 h8 h9 h10 h11 h12
  subst h0 h1 h2 h3 h4 h5 h6 h7 h8 h9 h10 h11 h12
  refine ⟨n0, n1, n2, n3, n4, n5, n6, n7, n8, n9, n10, n11, n12, ?_⟩
  have hl13 : l.length = 13 := hl
  match l, hl13 with
  | [a0, a1, a2, a3, a4, a5, a6, a7, a8, a9, a10, a11, a12], _ =>
    simp at e0 e1 e2 e3 e4 e5 e6 e7 e8 e9 e10 e11 e12
    subst e0 e1 e2 e3 e4 e5 e6 e7 e8 e9 e10 e11 e12
    rfl
end Go.Proofs.Ythfbhdffmipmpaa


/- The document's graph: what handles come to. -/
import Derived.Test.YtjjjeeffllelaaaRhA
namespace Go.Proofs.Ytjjjeeffllelaaa
open Go.RowKit

/-- What is known while a graph is gone through: what was met lies in the slice (A, c), its flags in block mb. -/
structure LvI (w0 w : World) (g : Nat) (S : Nat → Prop) (G : Gr) (A : Option Addr) (c mb : Nat) (L : List Int) : Prop where
  r : Rg w g S G
  own : ∀ k, S k → k < w0.heap.size
  bel : Below w0.heap.size w0 w
  mlow : w0.heap.size ≤ mb
  qlow : ∀ k, blkOf A = some k → w0.heap.size ≤ k
  q : Qu w A L.length c L
  m : Blk w mb ((flagL G.ns.length L).map Value.bool).toArray 4
  lv : LiveL G.ns.length L
  few : G.ns.length ≤ 1048576

section
variable {w0 w : World} {g c mb : Nat} {S : Nat → Prop} {G : Gr} {A : Option Addr} {L : List Int}

/-- The graph's cells. -/
theorem Rg.cells (r : Rg w g S G) : ∃ nb nc hA hc, w.cell? ⟨g, 0, none⟩ = some (.slice (some ⟨nb, 0, none⟩) (G.ns.length + 1) nc) ∧ w.cell? ⟨g, 1, none⟩ = some (.slice hA G.hs.length hc) ∧ G.ns.length + 1 ≤ nc ∧ nc ≤ maxLen ∧
    (∀ i x, G.hs[i]? = some x → ∃ q off, hA = some ⟨q, off, none⟩ ∧ S q ∧ w.cell? ⟨q, off + i, none⟩ = some (.int .i64 x)) ∧
    (∀ i : Nat, i < G.ns.length → ∃ pb sb, w.cell? ⟨nb, (i + 1) * 2, none⟩ = some (.slice (some ⟨pb, 0, none⟩) (G.node ((i + 1 : Nat) : Int)).1.length (G.node ((i + 1 : Nat) : Int)).1.length) ∧
      w.cell? ⟨nb, (i + 1) * 2 + 1, none⟩ = some (.slice (some ⟨sb, 0, none⟩) (G.node ((i + 1 : Nat) : Int)).2.length (G.node ((i + 1 : Nat) : Int)).2.length) ∧
      Blk w pb (ints (G.node ((i + 1 : Nat) : Int)).1).toArray 3 ∧ Blk w sb (wordsU (G.node ((i + 1 : Nat) : Int)).2).toArray 28 ∧ S pb ∧ S sb ∧ (G.node ((i + 1 : Nat) : Int)).1.length ≤ 64 ∧ (G.node ((i + 1 : Nat) : Int)).2.length ≤ 64) ∧ S g ∧ S nb ∧ G.hs.length ≤ 64 ∧ G.ns.length ≤ 1048576 := by
  obtain ⟨vN, hA, hc, nd, hi, e, rfl⟩ := r
  obtain ⟨nb, nc, cur, rfl, hb, n1, n2, hx⟩ := hi.row
  have hl : G.ns.length = nd.length := by rw [e, List.length_map]
  rw [hl]
  refine ⟨nb, nc, hA, hc, hi.blk.cell 0, hi.blk.cell 1, n1, n2, fun i x hxi => ?_, fun i hil => ?_, .inl rfl, .inr (.inl rfl), hi.hfew, hi.few⟩
  · obtain ⟨q, off, rfl, _, hcx, _⟩ := hi.hrow.at_ (by have := (List.getElem?_eq_some_iff.1 hxi).1; omega)
    exact ⟨q, off, rfl, .inr (.inr (.inl rfl)), hcx i x hxi⟩
  · obtain ⟨j, y, ej, hy, en, _⟩ := node_at e (x := ((i + 1 : Nat) : Int)) (by omega) (by omega)
    obtain rfl : j = i := by omega
    have mem := List.mem_of_getElem? hy
    have z0 := hx j 0 y hy (by decide)
    have z1 := hx j 1 y hy (by decide)
    rw [en]
    have sz := hi.size y mem
    exact ⟨y.pb, y.sb, by rw [hb.cell]; exact z0, by rw [hb.cell]; exact z1, hi.ptr y mem, hi.sca y mem, .inr (.inr (.inr ⟨y, mem, .inl rfl⟩)), .inr (.inr (.inr ⟨y, mem, .inr rfl⟩)), sz.1, sz.2⟩

theorem LvI.keep {w' : World} (h : LvI w0 w g S G A c mb L) (f : Below w.heap.size w w') : LvI w0 w' g S G A c mb L :=
  ⟨h.r.keep f, h.own, below_trans h.bel f, h.mlow, h.qlow, h.q.keep f, h.m.keep f, h.lv, h.few⟩

/-- It begins. -/
theorem LvI.first {N : Nat} (r : Rg w g S G) (hN : G.ns.length = N) :
    LvI w ((w.alloc (.cells #[] 3)).alloc (.cells ((Array.replicate (N + 1) (Value.bool false)).setIfInBounds 0 (.bool true)) 4)) g S G (some ⟨w.heap.size, 0, none⟩) 0 (w.heap.size + 1) [] := by
  subst hN
  have e : (Array.replicate (G.ns.length + 1) (Value.bool false)).setIfInBounds 0 (.bool true) = ((flagL G.ns.length []).map Value.bool).toArray := by
    rw [← flagL_nil]
    apply Array.ext'
    simp
  rw [e]
  generalize e1 : w.alloc (.cells #[] 3) = w1
  generalize e2 : w1.alloc (.cells ((flagL G.ns.length []).map Value.bool).toArray 4) = w2
  have f1 : Below w.heap.size w w1 := by rw [← e1]; exact (Below.refl _ _).alloc (Nat.le_refl _) _
  have s1 : w1.heap.size = w.heap.size + 1 := by rw [← e1]; simp
  have f2 : Below w1.heap.size w1 w2 := by rw [← e2]; exact (Below.refl _ _).alloc (Nat.le_refl _) _
  have few : G.ns.length ≤ 1048576 := by obtain ⟨_, _, _, _, _, _, _, _, _, _, _, _, _, k⟩ := r.cells; exact k
  have b2 : Blk w2 (w.heap.size + 1) ((flagL G.ns.length []).map Value.bool).toArray 4 := by
    have := Blk.new w1 ((flagL G.ns.length []).map Value.bool).toArray 4
    rw [e2, s1] at this
    exact this
  have q1 : Qu w1 (some ⟨w.heap.size, 0, none⟩) 0 0 [] := by rw [← e1]; exact Qu.fresh w
  exact ⟨r.keep (below_trans f1 f2), fun k hk => r.lt hk, below_trans f1 f2, by omega, fun k hk => by cases hk; exact Nat.le_refl _, q1.keep f2, b2, .nil _, few⟩

/-- One more is met. -/
theorem LvI.add (h : LvI w0 w g S G A c mb L) {x : Nat} (x1 : 1 ≤ x) (x2 : x ≤ G.ns.length) (hx : (x : Int) ∉ L) {V : World} (eV : w.setCell ⟨mb, x, none⟩ (.bool true) = V) :
    Rg V g S G ∧ V.heap.size = w.heap.size ∧ Qu (V.alloc (.cells #[.int .i64 x] 3)) A L.length c L ∧ (V.alloc (.cells #[.int .i64 x] 3)).cell? ⟨V.heap.size, 0, none⟩ = some (.int .i64 x) ∧
      ∀ A' c' w2, Qu w2 A' (L.length + 1) c' (L ++ [(x : Int)]) → Grw A A' (V.alloc (.cells #[.int .i64 x] 3)) w2 → LvI w0 w2 g S G A' c' mb (L ++ [(x : Int)]) := by
  have fV : Frm (fun k => k = mb) w V := by rw [← eV]; exact Frm.setCell (S := fun k => k = mb) (Frm.refl _ _) (p := ⟨mb, x, none⟩) (fun _ => rfl) _
  have sV : V.heap.size = w.heap.size := by rw [← eV]; simp
  have al : Below V.heap.size V (V.alloc (.cells #[.int .i64 x] 3)) := (Below.refl _ _).alloc (Nat.le_refl _) _
  have qm : ∀ k, blkOf A = some k → k ≠ mb := by
    rintro k hk rfl
    rcases h.q.lies with ⟨rfl, _⟩ | ⟨q, off, cs, rfl, hb, _⟩
    · cases hk
    · cases hk
      exact Blk.ne_ hb h.m (by decide) rfl
  have rV := h.r.frm fV fun k hk e => by have := h.own k hk; have := h.mlow; omega
  have qV := h.q.frm fV qm
  have mV : Blk V mb ((flagL G.ns.length (L ++ [(x : Int)])).map Value.bool).toArray 4 := by
    have := h.m.setBool x true
    rw [eV] at this
    have e := flagL_set (N := G.ns.length) (L := L) (x := (x : Int)) (by omega) (by omega)
    rw [Int.toNat_natCast] at e
    rw [← e]
    exact this
  have lt := h.m.lt
  have bV : Below w0.heap.size w0 V := Below.frm h.bel fV h.bel.size fun k hk e => by have := h.mlow; omega
  refine ⟨rV, sV, qV.keep al, (Blk.new V #[.int .i64 x] 3).cell 0, fun A' c' w2 q gr => ?_⟩
  have sA : (V.alloc (.cells #[.int .i64 x] 3)).heap.size = V.heap.size + 1 := by simp
  have bA := below_trans bV al
  exact
    { r := (rV.keep al).frm gr.frm fun k hk e => by have := h.own k hk; have := h.qlow k e; omega
      own := h.own
      bel := Below.frm bA gr.frm bA.size fun k hk e => by have := h.qlow k e; omega
      mlow := h.mlow
      qlow := fun k hk => by
        rcases gr.at_ k hk with e | e
        · exact h.qlow k e
        · have := h.bel.size; omega
      q := by rw [List.length_append, List.length_singleton]; exact q
      m := (mV.keep al).frm gr.frm fun e => qm mb e rfl
      lv := h.lv.new (by omega) (by omega) hx
      few := h.few }

/-- Is it met? -/
theorem LvI.flag (h : LvI w0 w g S G A c mb L) {x : Nat} (x2 : x ≤ G.ns.length) : w.cell? ⟨mb, x, none⟩ = some (.bool (decide ((x : Int) = 0 ∨ (x : Int) ∈ L))) := by
  have := flagL_at (N := G.ns.length) (L := L) (x := (x : Int)) (by omega) (by omega)
  rw [Int.toNat_natCast] at this
  exact h.m.bools this
end
end Go.Proofs.Ytjjjeeffllelaaa

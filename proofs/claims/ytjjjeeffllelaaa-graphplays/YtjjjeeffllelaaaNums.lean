
/- A slice of numbers of any kind as an argument, and as it is read later; a slice of structs as an argument. -/
import Derived.Test.YtjjjeeffllelaaaLists
import Derived.Test.YtjjjeeffllelaaaArgR
import Derived.Deep.Slices
import Derived.Deep.Fields
import Derived.ChangeSame
namespace Go.Proofs.Ytjjjeeffllelaaa
open Go.RowKit Go.ChangeShapes Go.WideShapes Go.Deep

/-- A slice of numbers from lo to hi as it came in: nil let in. -/
def RdN (k : IntKind) (lo hi : Int) (w : World) (A : Option Addr) (n : Nat) : Prop :=
  ∀ i, i < n → ∃ ad x, A = some ad ∧ lo ≤ x ∧ x ≤ hi ∧ ∀ w', Below w.heap.size w w' → w'.cell? (ad.add i) = some (.int k x)

theorem open_nums {H : Type} {enc : TypeId × Value → H} {P : Program} {w : World} {r : Reach} {b0 : Nat} {t e : TypeId} {k : IntKind} {v : Value} {d : DataW H} {ps : List MemPlace} (lo hi : Int)
    (ht : P.underlying t = some (.slice e)) (he : P.underlying e = some (.int k)) (hc : P.cellsOf e = 1) (hlo : k.min = lo) (hhi : k.max = hi) (hv : Value.okWide P w r b0 t v) (h : DataW.Trod enc P w 0 (fun _ => true) true t v d ps) :
    ∃ A n c, v = .slice A n c ∧ n ≤ c ∧ c ≤ maxLen ∧ RdN k lo hi w A n := by
  obtain ⟨A, n, c, xs, rfl, nc, cm, rd, wf⟩ := open_rd ht he hc hv h
  refine ⟨A, n, c, rfl, nc, cm, fun i hi' => ?_⟩
  have hl := rd.1
  have hx : xs[i]? = some (xs[i]'(by omega)) := List.getElem?_eq_getElem (by omega)
  obtain ⟨ad, e, hb, hc⟩ := rd.2 i _ hx
  have k := bounds_int (wf _ (List.mem_of_getElem? hx))
  exact ⟨ad, _, e, by rw [← hlo]; exact k.1, by rw [← hhi]; exact k.2, fun w' hb' => (hb'.cell (p := ad.add i) (by rw [block_of_add]; exact hb)).trans hc⟩

section
variable {H : Type} {enc : TypeId × Value → H} {P : Program} {w : World} {base : Nat} {spare : Nat → Bool} {held : Bool}
/-- A slice of structs whose fields take one cell each: the cells of each, with each field's own reading. -/
theorem open_structs {r : Reach} {b0 : Nat} {t e : TypeId} {fs : Array Field} {v : Value} {d : DataW H} {ps : List MemPlace} (ht : P.underlying t = some (.slice e)) (he : P.underlying e = some (.struct fs))
    (hone : oneCellFields P fs = true) (hC : P.cellsOf e = fs.size) (hv : Value.okWide P w r b0 t v) (h : DataW.Trod enc P w base spare held t v d ps) :
    ∃ A n c, v = .slice A n c ∧ n ≤ c ∧ c ≤ maxLen ∧ ∀ i, i < n → ∃ a m, A = some a ∧ ∀ (j : Nat) (f : Field), fs[j]? = some f → ∃ (x : Value) (y : DataW H × List MemPlace), w.cell? (a.add (i * fs.size + j)) = some x ∧ DataW.trod enc P w base spare held m f.type [x] = some y := by
  obtain ⟨A, n, c, rfl⟩ := okWide_slice ht hv
  obtain ⟨fuel, hf⟩ := h
  rcases open_slice ht hf with ⟨h0, _⟩ | ⟨a, len, cap, m, nn, D, Pl, hcs, _, hl, hm, hmm, _, hi⟩
  · simp [Value.cells] at h0
    obtain ⟨rfl, rfl, rfl⟩ := h0
    exact ⟨none, 0, 0, rfl, Nat.le_refl _, Nat.zero_le _, fun i hi => absurd hi (by omega)⟩
  · simp [Value.cells] at hcs
    obtain ⟨rfl, rfl, rfl⟩ := hcs
    refine ⟨some a, n, c, rfl, hl, hm, fun i hin => ?_⟩
    have him : i < m := by rw [hmm]; split <;> omega
    obtain ⟨cs', hc, ht'⟩ := hi i him
    rw [hC] at hc
    obtain ⟨ys, n', _, _, hlen, hyl, hff⟩ := DataW.trod_struct he ht'
    obtain ⟨_, hcl, hat⟩ := World.cells?_some hc
    refine ⟨a, n', rfl, fun j f hj => ?_⟩
    obtain ⟨ho, hk⟩ := hone_of hone j f hj
    have hjl : j < fs.size := (Array.getElem?_eq_some_iff.1 hj).1
    have hcell := hat j hjl
    have hvj : cs'[j]? = some (cs'[j]'(by omega)) := List.getElem?_eq_getElem (by omega)
    have h1 := hff j f hj
    rw [ho, hk] at h1
    have hone' : (cs'.drop j).take 1 = [cs'[j]'(by omega)] := by
      rw [List.drop_eq_getElem_cons (by omega)]
      rfl
    rw [hone'] at h1
    have hys : ys[j]? = some (ys[j]'(by omega)) := List.getElem?_eq_getElem (by omega)
    exact ⟨_, _, by rw [← Go.Deep.add_add, hcell, hvj], h1.trans hys⟩
end

theorem add_more (a : Addr) (i j : Nat) (hj : j ≠ 0) : a.add (i + j) = ⟨(a.add i).block, (a.add i).off + j, none⟩ := by
  unfold Addr.add
  by_cases hi : i = 0
  · subst hi; simp [hj]
  · simp [hi, Nat.add_assoc]

/-- A slice of two numbers each, as it came in: nil let in. -/
def RdA (w : World) (A : Option Addr) (n : Nat) : Prop :=
  ∀ i, i < n → ∃ ad x0 x1, A = some ad ∧ -9223372036854775808 ≤ x1 ∧ x1 ≤ 9223372036854775807 ∧
    ∀ w', Below w.heap.size w w' → w'.cell? (ad.add (i * 2)) = some (.int .i64 x0) ∧ w'.cell? ⟨(ad.add (i * 2)).block, (ad.add (i * 2)).off + 1, none⟩ = some (.int .i64 x1)

theorem open_pairs {H : Type} {enc : TypeId × Value → H} {P : Program} {w : World} {base : Nat} {spare : Nat → Bool} {held : Bool} {r : Reach} {b0 : Nat} {t e ti : TypeId} {f0 f1 : Field} {v : Value} {d : DataW H} {p : List MemPlace}
    (ht : P.underlying t = some (.slice e)) (he : P.underlying e = some (.struct #[f0, f1])) (hone : oneCellFields P #[f0, f1] = true) (hC : P.cellsOf e = 2) (hi : P.underlying ti = some (.int .i64)) (h0 : f0.type = ti) (h1 : f1.type = ti)
    (hv : Value.okWide P w r b0 t v) (h : DataW.Trod enc P w base spare held t v d p) :
    ∃ A n c, v = .slice A n c ∧ n ≤ c ∧ c ≤ maxLen ∧ RdA w A n := by
  obtain ⟨A, n, c, rfl, hn, hc, hj⟩ := open_structs ht he hone hC hv h
  refine ⟨A, n, c, rfl, hn, hc, fun i hin => ?_⟩
  obtain ⟨a, m, rfl, hf⟩ := hj i hin
  obtain ⟨v0, y0, e0, t0⟩ := hf 0 f0 rfl
  obtain ⟨v1, y1, e1, t1⟩ := hf 1 f1 rfl
  obtain ⟨n0, k0, _, _⟩ := DataW.trod_int (by rw [h0]; exact hi) t0
  obtain ⟨n1, k1, _, w1⟩ := DataW.trod_int (by rw [h1]; exact hi) t1
  simp only [List.cons.injEq, and_true] at k0 k1
  subst k0 k1
  have kb : -9223372036854775808 ≤ n1 ∧ n1 ≤ 9223372036854775807 := bounds_int w1
  have hlt : a.block < w.heap.size := by have := cell_lt e0; rwa [block_of_add] at this
  change w.cell? (a.add (i * 2 + 0)) = _ at e0
  change w.cell? (a.add (i * 2 + 1)) = _ at e1
  rw [Nat.add_zero] at e0
  rw [add_more _ _ _ (by omega)] at e1
  have eb : (a.add (i * 2)).block = a.block := by unfold Addr.add; split <;> rfl
  exact ⟨a, n0, n1, rfl, kb.1, kb.2, fun w' hb => ⟨(hb.cell (p := a.add (i * 2)) (by rw [eb]; exact hlt)).trans e0, (hb.cell (p := ⟨(a.add (i * 2)).block, (a.add (i * 2)).off + 1, none⟩) (by rw [eb]; exact hlt)).trans e1⟩⟩
end Go.Proofs.Ytjjjeeffllelaaa


/- The document's graph: how a node that is made lies in memory, in either order of its two rows. -/
import Derived.Test.YtjjjeeffllelaaaRgF
namespace Go.Proofs.Ytjjjeeffllelaaa
open Go.RowKit

abbrev bxI (n : Nat) : Obj := .cells (ints (List.replicate n 0)).toArray 3
abbrev bxU (n : Nat) : Obj := .cells (wordsU (List.replicate n 0)).toArray 28
abbrev bxN (p s m n : Nat) : Obj := .cells #[.slice (some ⟨p, 0, none⟩) m m, .slice (some ⟨s, 0, none⟩) n n] 45

/-- What is there when both rows and the node have been laid, in either order of the rows. -/
structure Mk (w U : World) (g : Nat) (vN : Value) (hA : Option Addr) (hc : Nat) (nd : List Nd) (hs : List Int) (lg : Int) (p s q m n : Nat) : Prop where
  bel : Below w.heap.size w U
  isg : IsG w g vN hA hc nd hs lg
  bp : Blk U p (ints (List.replicate m 0)).toArray 3
  bs : Blk U s (wordsU (List.replicate n 0)).toArray 28
  bn : Blk U q #[.slice (some ⟨p, 0, none⟩) m m, .slice (some ⟨s, 0, none⟩) n n] 45
  np : w.heap.size ≤ p
  ns : w.heap.size ≤ s

section
variable {w : World} {g : Nat} {vN : Value} {hA : Option Addr} {hc : Nat} {nd : List Nd} {hs : List Int} {lg : Int}

theorem mk_ps (h : IsG w g vN hA hc nd hs lg) (m n : Nat) : Mk w (((w.alloc (bxI m)).alloc (bxU n)).alloc (bxN w.heap.size (w.heap.size + 1) m n)).drew g vN hA hc nd hs lg w.heap.size (w.heap.size + 1) (w.heap.size + 2) m n := by
  have s1 : (w.alloc (bxI m)).heap.size = w.heap.size + 1 := by simp
  have s2 : ((w.alloc (bxI m)).alloc (bxU n)).heap.size = w.heap.size + 2 := by simp
  have b1 : Below w.heap.size w (w.alloc (bxI m)) := (Below.refl _ _).alloc (Nat.le_refl _) _
  have b2 := b1.alloc (by simp) (bxU n)
  have b3 := b2.alloc (by rw [s2]; omega) (bxN w.heap.size (w.heap.size + 1) m n)
  have k2 := Blk.new (w.alloc (bxI m)) (wordsU (List.replicate n 0)).toArray 28
  have k3 := Blk.new ((w.alloc (bxI m)).alloc (bxU n)) #[.slice (some ⟨w.heap.size, 0, none⟩) m m, .slice (some ⟨w.heap.size + 1, 0, none⟩) n n] 45
  rw [s1] at k2
  rw [s2] at k3
  exact ⟨below_trans b3 (below_drew _), h, (((Blk.new w _ _).alloc _).alloc _).drew, (k2.alloc _).drew, k3.drew, Nat.le_refl _, by omega⟩

theorem mk_sp (h : IsG w g vN hA hc nd hs lg) (m n : Nat) : Mk w (((w.alloc (bxU n)).alloc (bxI m)).alloc (bxN (w.heap.size + 1) w.heap.size m n)).drew g vN hA hc nd hs lg (w.heap.size + 1) w.heap.size (w.heap.size + 2) m n := by
  have s1 : (w.alloc (bxU n)).heap.size = w.heap.size + 1 := by simp
  have s2 : ((w.alloc (bxU n)).alloc (bxI m)).heap.size = w.heap.size + 2 := by simp
  have b1 : Below w.heap.size w (w.alloc (bxU n)) := (Below.refl _ _).alloc (Nat.le_refl _) _
  have b2 := b1.alloc (by simp) (bxI m)
  have b3 := b2.alloc (by rw [s2]; omega) (bxN (w.heap.size + 1) w.heap.size m n)
  have k2 := Blk.new (w.alloc (bxU n)) (ints (List.replicate m 0)).toArray 3
  have k3 := Blk.new ((w.alloc (bxU n)).alloc (bxI m)) #[.slice (some ⟨w.heap.size + 1, 0, none⟩) m m, .slice (some ⟨w.heap.size, 0, none⟩) n n] 45
  rw [s1] at k2
  rw [s2] at k3
  exact ⟨below_trans b3 (below_drew _), h, (k2.alloc _).drew, (((Blk.new w _ _).alloc _).alloc _).drew, k3.drew, by omega, Nat.le_refl _⟩

/-- The node's two cells, as they are appended. -/
theorem Mk.news {U : World} {p s q m n : Nat} (h : Mk w U g vN hA hc nd hs lg p s q m n) : ∀ j u, [Value.slice (some ⟨p, 0, none⟩) m m, .slice (some ⟨s, 0, none⟩) n n][j]? = some u → U.cell? ((⟨q, 0, none⟩ : Addr).add j) = some u := by
  intro j u hj
  rw [Addr.add_lit, Nat.zero_add, h.bn.cell]
  simpa using hj

theorem Mk.row {U : World} {p s q m n : Nat} (h : Mk w U g vN hA hc nd hs lg p s q m n) : U.ownsRow 0 45 2 vN (nd.length + 1) (ndV nd) := (h.isg.keep h.bel).nrow

/-- Behind the append the graph itself reads as before. -/
theorem Mk.cells {U w1 : World} {p s q m n : Nat} (h : Mk w U g vN hA hc nd hs lg p s q m n) (gr : U.grownBy w1 vN.ownBlock) : w1.cell? ⟨g, 0, none⟩ = some vN ∧ w1.frozen? ⟨g, 0, none⟩ = false := by
  have hk := h.isg.keep h.bel
  obtain ⟨nb, nc, cur, en, hnb, _⟩ := hk.row
  have kb := hk.blk.frm (grown_own gr) (fun e => by rw [en] at e; cases e; exact Blk.ne_ hk.blk hnb (by decide) rfl)
  exact ⟨kb.cell 0, kb.frozen 0⟩

/-- A box of another kind reads as before. -/
theorem Mk.box {U w1 : World} {p s q m n k : Nat} {cs : Array Value} {ty : TypeId} (h : Mk w U g vN hA hc nd hs lg p s q m n) (gr : U.grownBy w1 vN.ownBlock) (hb : Blk w k cs ty) (n1 : ty ≠ 45) : Blk w1 k cs ty := by
  have hk := h.isg.keep h.bel
  obtain ⟨nb, nc, cur, en, hnb, _⟩ := hk.row
  have kb := hb.keep h.bel
  exact kb.frm (grown_own gr) (fun e => by rw [en] at e; cases e; exact Blk.ne_ kb hnb n1 rfl)

theorem Mk.done {U w1 : World} {p s q m n g' cap H : Nat} (h : Mk w U g vN hA hc nd hs lg p s q m n) (hm : m ≤ 64) (hn : n ≤ 64) (few : nd.length < 1048576)
    (own : w1.ownsRow 0 45 2 (.slice (some ⟨g', 0, none⟩) (nd.length + 1 + 1) cap) (nd.length + 1 + 1) (ndV nd ++ [Value.slice (some ⟨p, 0, none⟩) m m, .slice (some ⟨s, 0, none⟩) n n])) (gr : U.grownBy w1 vN.ownBlock) (hat : vN.ownBlock = some g' ∨ g' = H) (hH : U.heap.size = H) :
    ∃ x : Nd, x.two = (List.replicate m 0, List.replicate n 0) ∧ IsG (w1.setCell ⟨g, 0, none⟩ (.slice (some ⟨g', 0, none⟩) (nd.length + 1 + 1) cap)) g (.slice (some ⟨g', 0, none⟩) (nd.length + 1 + 1) cap) hA hc (nd ++ [x]) hs lg ∧
      Mv (gOwn g vN hA nd) (gOwn g (.slice (some ⟨g', 0, none⟩) (nd.length + 1 + 1) cap) hA (nd ++ [x])) w (w1.setCell ⟨g, 0, none⟩ (.slice (some ⟨g', 0, none⟩) (nd.length + 1 + 1) cap)) := by
  refine ⟨⟨List.replicate m 0, List.replicate n 0, p, s⟩, rfl, ?_⟩
  refine h.isg.add ⟨List.replicate m 0, List.replicate n 0, p, s⟩ h.bel h.bp h.bs h.np h.ns (fun q hq => List.eq_of_mem_replicate hq) few (by simp; omega) ?_ gr hat hH
  simp only [Nd.vs, List.length_replicate]
  exact own
end

theorem IsG.far_ {w : World} {g : Nat} {vN : Value} {hA : Option Addr} {hc : Nat} {nd : List Nd} {hs : List Int} {lg : Int} (h : IsG w g vN hA hc nd hs lg) {k : Nat} {cs : Array Value} {ty : TypeId} (hb : Blk w k cs ty) (n1 : ty ≠ 53) (n2 : ty ≠ 45) (n3 : ty ≠ 3) (n4 : ty ≠ 28) : ¬ gOwn g vN hA nd k := by
  rintro (rfl | e | e | ⟨x, hx, rfl | rfl⟩)
  · exact Blk.ne_ hb h.blk n1 rfl
  · obtain ⟨nb, nc, cur, rfl, hnb, _⟩ := h.row
    cases e
    exact Blk.ne_ hb hnb n2 rfl
  · exact h.hNe hb n3 e
  · exact Blk.ne_ hb (h.ptr x hx) n3 rfl
  · exact Blk.ne_ hb (h.sca x hx) n4 rfl

/-- A node was added. -/
def AddR (U : World) (g : Nat) (vN : Value) (hA : Option Addr) (hc : Nat) (nd : List Nd) (hs : List Int) (lg : Int) (m n : Nat) (wc : World) : Prop :=
  ∃ (g' cap : Nat) (x : Nd), x.two = (List.replicate m 0, List.replicate n 0) ∧ IsG wc g (.slice (some ⟨g', 0, none⟩) (nd.length + 1 + 1) cap) hA hc (nd ++ [x]) hs lg ∧
      Mv (gOwn g vN hA nd) (gOwn g (.slice (some ⟨g', 0, none⟩) (nd.length + 1 + 1) cap) hA (nd ++ [x])) U wc
end Go.Proofs.Ytjjjeeffllelaaa

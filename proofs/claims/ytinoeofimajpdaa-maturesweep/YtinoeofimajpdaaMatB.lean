/- The program's space as it lies in memory: a block of its own, a block of its pages' states, a block of flags for each page that has cells. -/
import Derived.Test.YtinoeofimajpdaaMatI
import Derived.Test.YtinoeofimajpdaaMatA
namespace Go.Proofs.Ytinoeofimajpdaa
open Go.RowKit

def Pg.kind : Pg → Int
  | .free => 0
  | .blk _ _ => 1
  | .big _ => 2
  | .rest => 3

def Pg.size (G : Int) : Pg → Int
  | .free => 0
  | .blk s _ => s
  | .big c => c * G
  | .rest => 0

def Pg.flags : Pg → List Bool
  | .blk _ us => us
  | .big _ => [true]
  | _ => []

def Pg.adr (u : Nat) (x : Pg) : Option Addr := if x.first then some ⟨u, 0, none⟩ else none

def Pg.row (u : Nat) (x : Pg) : Value := .slice (x.adr u) x.flags.length x.flags.length

def stV (G : Int) (x : Pg) (u : Nat) (p : Bool) : List Value := [.int .i64 x.kind, .int .i64 (x.size G), x.row u, .bool p]

def flat4 (n : Nat) (f : Nat → List Value) : List Value := (List.range n).flatMap f

theorem flat4_length {f : Nat → List Value} (hf : ∀ i, (f i).length = 4) (n : Nat) : (flat4 n f).length = n * 4 := by
  unfold flat4
  induction n with
  | zero => rfl
  | succ n ih => rw [List.range_succ, List.flatMap_append, List.length_append, ih, List.flatMap_cons, List.flatMap_nil, List.append_nil, hf]; omega

theorem flat4_at {f : Nat → List Value} (hf : ∀ i, (f i).length = 4) {n i j : Nat} (hi : i < n) (hj : j < 4) : (flat4 n f)[i * 4 + j]? = (f i)[j]? := by
  induction n with
  | zero => omega
  | succ n ih =>
    have hl := flat4_length hf n
    have e : flat4 (n + 1) f = flat4 n f ++ f n := by simp [flat4, List.range_succ]
    rw [e]
    by_cases c : i < n
    · rw [List.getElem?_append_left (by omega)]
      exact ih c
    · obtain rfl : i = n := by omega
      rw [List.getElem?_append_right (by omega)]
      congr 1
      omega

theorem flat4_ext {f : Nat → List Value} (hf : ∀ i, (f i).length = 4) {n : Nat} {L : List Value} (hl : L.length = n * 4) (h : ∀ i j, i < n → j < 4 → L[i * 4 + j]? = (f i)[j]?) : L = flat4 n f := by
  apply List.ext_getElem?
  intro k
  by_cases hk : k < n * 4
  · have e : k = (k / 4) * 4 + k % 4 := by omega
    rw [e, h _ _ (by omega) (by omega), flat4_at hf (by omega) (by omega)]
  · rw [List.getElem?_eq_none (by omega), List.getElem?_eq_none (by rw [flat4_length hf]; omega)]

def stF (G : Int) (pgs : List Pg) (ub : Nat → Nat) (ps : List Bool) (i : Nat) : List Value := stV G (pgs.getD i .free) (ub i) (ps.getD i false)

theorem stF_four (G : Int) (pgs : List Pg) (ub : Nat → Nat) (ps : List Bool) (i : Nat) : (stF G pgs ub ps i).length = 4 := rfl

/-- The program's space lies in block b, its pages' states in block pb, the flags of page i in block ub i. -/
structure IsSp (w : World) (b pb : Nat) (ub : Nat → Nat) (F G : Int) (pgs : List Pg) (ps : List Bool) : Prop where
  sp : SpB w b F G pb pgs.length
  pg : Blk w pb (flat4 pgs.length (stF G pgs ub ps)).toArray 62
  fl : ∀ (i : Nat) (x : Pg), pgs[i]? = some x → x.first = true → Blk w (ub i) (x.flags.map Value.bool).toArray 4
  inj : ∀ (i j : Nat) (x y : Pg), pgs[i]? = some x → pgs[j]? = some y → x.first = true → y.first = true → ub i = ub j → i = j
  pend : ∀ i : Nat, ps[i]? = some true → ∃ x : Pg, pgs[i]? = some x ∧ x.first = true
  wf : WF G pgs
  len : pgs.length = ps.length
  f0 : 0 ≤ F
  f1 : F ≤ 1048576
  g0 : 1 ≤ G
  g1 : G ≤ 256
  p1 : ps.length ≤ 64

/-- Its own blocks. -/
def SpS (b pb : Nat) (ub : Nat → Nat) (pgs : List Pg) (k : Nat) : Prop := k = b ∨ k = pb ∨ ∃ (i : Nat) (x : Pg), pgs[i]? = some x ∧ x.first = true ∧ k = ub i

section
variable {w w' : World} {b pb : Nat} {ub : Nat → Nat} {F G : Int} {pgs : List Pg} {ps : List Bool}

theorem IsSp.lt (h : IsSp w b pb ub F G pgs ps) (k : Nat) (hk : SpS b pb ub pgs k) : k < w.heap.size := by
  rcases hk with rfl | rfl | ⟨i, x, hx, hf, rfl⟩
  · exact Blk.lt h.sp
  · exact h.pg.lt
  · exact (h.fl i x hx hf).lt

theorem IsSp.stay (h : IsSp w b pb ub F G pgs ps) (hb : ∀ k, SpS b pb ub pgs k → w'.heap[k]? = w.heap[k]?) : IsSp w' b pb ub F G pgs ps :=
  { h with
    sp := (hb b (Or.inl rfl)).trans h.sp
    pg := (hb pb (Or.inr (Or.inl rfl))).trans h.pg
    fl := fun i x hx hf => (hb (ub i) (Or.inr (Or.inr ⟨i, x, hx, hf, rfl⟩))).trans (h.fl i x hx hf) }

theorem IsSp.keep (h : IsSp w b pb ub F G pgs ps) (k : Below w.heap.size w w') : IsSp w' b pb ub F G pgs ps := h.stay fun i hi => k.block i (h.lt i hi)

theorem IsSp.at_ (h : IsSp w b pb ub F G pgs ps) {i : Nat} {x : Pg} (hx : pgs[i]? = some x) :
    ∃ p, ps[i]? = some p ∧ w.cell? ⟨pb, i * 4, none⟩ = some (.int .i64 x.kind) ∧ w.cell? ⟨pb, i * 4 + 1, none⟩ = some (.int .i64 (x.size G)) ∧ w.cell? ⟨pb, i * 4 + 2, none⟩ = some (.slice (x.adr (ub i)) x.flags.length x.flags.length) ∧ w.cell? ⟨pb, i * 4 + 3, none⟩ = some (.bool p) ∧ (∀ k, w.frozen? ⟨pb, k, none⟩ = false) := by
  have hi := (List.getElem?_eq_some_iff.1 hx).1
  have hp : ps[i]? = some (ps[i]'(by have := h.len; omega)) := List.getElem?_eq_getElem (by have := h.len; omega)
  have hs : stF G pgs ub ps i = stV G x (ub i) (ps[i]'(by have := h.len; omega)) := by
    unfold stF
    rw [List.getD_eq_getElem?_getD, hx, List.getD_eq_getElem?_getD, hp]
    rfl
  have cell : ∀ j, j < 4 → w.cell? ⟨pb, i * 4 + j, none⟩ = (stV G x (ub i) (ps[i]'(by have := h.len; omega)))[j]? := fun j hj => by
    rw [h.pg.cell, List.getElem?_toArray, flat4_at (stF_four G pgs ub ps) hi hj, hs]
  exact ⟨_, hp, cell 0 (by omega), cell 1 (by omega), cell 2 (by omega), cell 3 (by omega), h.pg.frozen⟩

/-- A page's numbers are small. -/
theorem IsSp.small (h : IsSp w b pb ub F G pgs ps) {i : Nat} {x : Pg} (hx : pgs[i]? = some x) : 0 ≤ x.kind ∧ x.kind ≤ 3 ∧ 0 ≤ x.size G ∧ x.size G ≤ 16384 ∧ x.flags.length ≤ 64 ∧ i < 64 := by
  have hi := (List.getElem?_eq_some_iff.1 hx).1
  have hl := h.len
  have hp := h.p1
  have g0 := h.g0
  have g1 := h.g1
  cases x with
  | free => exact ⟨show (0 : Int) ≤ 0 by decide, show (0 : Int) ≤ 3 by decide, Int.le_refl _, show (0 : Int) ≤ 16384 by decide, show 0 ≤ 64 by decide, by omega⟩
  | rest => exact ⟨show (0 : Int) ≤ 3 by decide, show (3 : Int) ≤ 3 by decide, Int.le_refl _, show (0 : Int) ≤ 16384 by decide, show 0 ≤ 64 by decide, by omega⟩
  | big c =>
    obtain ⟨c1, c2, _⟩ := h.wf.big i c hx
    have := page_in (G := G) (i := c) g0 g1 (by omega) (by omega)
    exact ⟨show (0 : Int) ≤ 2 by decide, show (2 : Int) ≤ 3 by decide, this.1, this.2, show 1 ≤ 64 by decide, by omega⟩
  | blk s us =>
    obtain ⟨s0, s1, hu, _⟩ := h.wf.blk i s us hx
    have q : G / s ≤ G / 4 := by
      refine Int.le_ediv_of_mul_le (by omega) ?_
      have h1 := Int.mul_le_mul_of_nonneg_left s0 (show 0 ≤ G / s by omega)
      have h2 := Int.ediv_mul_le G (show s ≠ 0 by omega)
      omega
    refine ⟨show (0 : Int) ≤ 1 by decide, show (1 : Int) ≤ 3 by decide, ?_, ?_, ?_, by omega⟩
    · show 0 ≤ s; omega
    · show s ≤ 16384; omega
    · show us.length ≤ 64; omega
end
end Go.Proofs.Ytinoeofimajpdaa

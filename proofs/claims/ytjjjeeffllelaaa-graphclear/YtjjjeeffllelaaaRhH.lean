
/- What is come to, in order: closed under references; the same under other names. Of lists alone. -/
import Derived.Test.YtjjjeeffllelaaaRhA
namespace Go.Proofs.Ytjjjeeffllelaaa
open Go.RowKit

/-- Gr.walkL, of any references. -/
def walkG (rf : Int → List Int) : Nat → List Int → Nat → List Int
  | 0, L, _ => L
  | f + 1, L, i => match L[i]? with
    | some x => walkG rf f (metsL L (rf x)) (i + 1)
    | none => L
theorem Gr.walkL_eq (G : Gr) : ∀ (f : Nat) (L : List Int) (i : Nat), G.walkL f L i = walkG (fun x => (G.node x).1) f L i := by
  intro f
  induction f with
  | zero => exact fun _ _ => rfl
  | succ f ih =>
    intro L i
    rw [Gr.walkL, walkG]
    cases L[i]? with
    | none => rfl
    | some x => exact ih _ _

theorem metL_mem {L : List Int} {x y : Int} : y ∈ metL L x ↔ y ∈ L ∨ (y = x ∧ x ≠ 0) := by
  unfold metL
  split
  · rename_i h
    refine ⟨.inl, fun k => k.elim id fun ⟨e, n⟩ => ?_⟩
    rw [e]
    exact h.resolve_left n
  · rename_i h
    rw [List.mem_append, List.mem_singleton]
    exact ⟨fun k => k.imp id fun e => ⟨e, fun z => h (.inl z)⟩, fun k => k.imp id And.left⟩
theorem metsL_mem {xs : List Int} {y : Int} : ∀ {L : List Int}, y ∈ metsL L xs ↔ y ∈ L ∨ (y ∈ xs ∧ y ≠ 0) := by
  induction xs with
  | nil => intro L; exact ⟨.inl, fun k => k.elim id fun k => by cases k.1⟩
  | cons x xs ih =>
    intro L
    show y ∈ metsL (metL L x) xs ↔ _
    rw [ih, metL_mem, List.mem_cons]
    constructor
    · rintro ((h | ⟨rfl, h⟩) | ⟨h, k⟩)
      · exact .inl h
      · exact .inr ⟨.inl rfl, h⟩
      · exact .inr ⟨.inr h, k⟩
    · rintro (h | ⟨rfl | h, k⟩)
      · exact .inl (.inl h)
      · exact .inl (.inr ⟨rfl, k⟩)
      · exact .inr ⟨h, k⟩
theorem metL_pre (L : List Int) (x : Int) : ∃ l, metL L x = L ++ l := by
  unfold metL
  split
  · exact ⟨[], by simp⟩
  · exact ⟨[x], rfl⟩
theorem metsL_pre (xs : List Int) : ∀ L : List Int, ∃ l, metsL L xs = L ++ l := by
  induction xs with
  | nil => exact fun L => ⟨[], by simp [metsL]⟩
  | cons x xs ih =>
    intro L
    obtain ⟨l, e⟩ := metL_pre L x
    obtain ⟨m, e2⟩ := ih (metL L x)
    exact ⟨l ++ m, by show metsL (metL L x) xs = _; rw [e2, e, List.append_assoc]⟩
theorem walkG_pre (rf : Int → List Int) : ∀ (f : Nat) (L : List Int) (i : Nat), ∃ l, walkG rf f L i = L ++ l := by
  intro f
  induction f with
  | zero => exact fun L _ => ⟨[], by simp [walkG]⟩
  | succ f ih =>
    intro L i
    rw [walkG]
    cases L[i]? with
    | none => exact ⟨[], by simp⟩
    | some x =>
      obtain ⟨l, e⟩ := metsL_pre (rf x) L
      obtain ⟨m, e2⟩ := ih (metsL L (rf x)) (i + 1)
      exact ⟨l ++ m, by show walkG rf f (metsL L (rf x)) (i + 1) = _; rw [e2, e, List.append_assoc]⟩

/-- What is come to is closed under references. -/
theorem walkG_closed {rf : Int → List Int} {N : Nat} (few : ∀ x, ∀ r ∈ rf x, 0 ≤ r ∧ r ≤ N) : ∀ (f : Nat) {L : List Int} {i : Nat}, LiveL N L → i ≤ L.length → N < i + f → (∀ j x, j < i → L[j]? = some x → ∀ r ∈ rf x, r = 0 ∨ r ∈ L) →
    ∀ x ∈ walkG rf f L i, ∀ r ∈ rf x, r = 0 ∨ r ∈ walkG rf f L i := by
  intro f
  induction f with
  | zero => intro L i h hi hN; have := h.few; omega
  | succ f ih =>
    intro L i h hi hN hc
    rw [walkG]
    cases hx : L[i]? with
    | none =>
      intro x hm r hr
      have hm : x ∈ L := hm
      show r = 0 ∨ r ∈ L
      obtain ⟨j, hj, e⟩ := List.getElem_of_mem hm
      have : L.length ≤ i := List.getElem?_eq_none_iff.1 hx
      exact hc j x (by omega) (by rw [List.getElem?_eq_getElem hj, e]) r hr
    | some x =>
      obtain ⟨l, e⟩ := metsL_pre (rf x) L
      have hl : i < L.length := (List.getElem?_eq_some_iff.1 hx).1
      refine ih (h.mets (few x)) (by rw [e, List.length_append]; omega) (by omega) fun j y hj hy r hr => ?_
      have hj' : j < L.length := by omega
      rw [e, List.getElem?_append_left hj'] at hy
      by_cases k : j = i
      · subst k
        rw [hx] at hy
        cases hy
        by_cases z : r = 0
        · exact .inl z
        · exact .inr (metsL_mem.2 (.inr ⟨hr, z⟩))
      · exact (hc j y (by omega) hy r hr).imp id fun q => metsL_mem.2 (.inl q)
theorem walkG_from {rf : Int → List Int} {P : Int → Prop} (hP : ∀ x, P x → ∀ r ∈ rf x, r ≠ 0 → P r) : ∀ (f : Nat) {L : List Int} (i : Nat), (∀ x ∈ L, P x) → ∀ x ∈ walkG rf f L i, P x := by
  intro f
  induction f with
  | zero => exact fun _ h => h
  | succ f ih =>
    intro L i h
    rw [walkG]
    cases hx : L[i]? with
    | none => exact h
    | some x => exact ih (i + 1) fun y hy => (metsL_mem.1 hy).elim (h y) fun ⟨h1, h2⟩ => hP x (h x (List.mem_of_getElem? hx)) y h1 h2

/-! Under other names. -/

theorem metL_map {P : Int → Prop} {f : Int → Int} (z : f 0 = 0) (nz : ∀ x, P x → f x ≠ 0) (inj : ∀ x y, P x → P y → f x = f y → x = y) {L : List Int} (hL : ∀ x ∈ L, P x) {x : Int} (hx : x = 0 ∨ P x) : metL (L.map f) (f x) = (metL L x).map f := by
  have e : (f x = 0 ∨ f x ∈ L.map f) ↔ (x = 0 ∨ x ∈ L) := by
    constructor
    · rintro (h | h)
      · rcases hx with k | k
        · exact .inl k
        · exact absurd h (nz x k)
      · obtain ⟨y, hy, e⟩ := List.mem_map.1 h
        rcases hx with k | k
        · exact .inl k
        · exact .inr (inj y x (hL y hy) k e ▸ hy)
    · rintro (rfl | h)
      · exact .inl z
      · exact .inr (List.mem_map_of_mem h)
  unfold metL
  by_cases k : x = 0 ∨ x ∈ L
  · rw [if_pos k, if_pos (e.2 k)]
  · rw [if_neg k, if_neg fun h => k (e.1 h), List.map_append]
    rfl
theorem metsL_map {P : Int → Prop} {f : Int → Int} (z : f 0 = 0) (nz : ∀ x, P x → f x ≠ 0) (inj : ∀ x y, P x → P y → f x = f y → x = y) {xs : List Int} (hx : ∀ x ∈ xs, x = 0 ∨ P x) : ∀ {L : List Int}, (∀ x ∈ L, P x) → metsL (L.map f) (xs.map f) = (metsL L xs).map f := by
  induction xs with
  | nil => exact fun _ => rfl
  | cons x xs ih =>
    intro L hL
    show metsL (metL (L.map f) (f x)) (xs.map f) = (metsL (metL L x) xs).map f
    rw [metL_map z nz inj hL (hx x List.mem_cons_self)]
    exact ih (fun y hy => hx y (List.mem_cons_of_mem _ hy)) fun y hy => (metL_mem.1 hy).elim (hL y) fun ⟨e, n⟩ => e ▸ (hx x List.mem_cons_self).resolve_left n
theorem walkG_map {P : Int → Prop} {f : Int → Int} {rf rg : Int → List Int} (z : f 0 = 0) (nz : ∀ x, P x → f x ≠ 0) (inj : ∀ x y, P x → P y → f x = f y → x = y) (hr : ∀ x, P x → rg (f x) = (rf x).map f) (hP : ∀ x, P x → ∀ r ∈ rf x, r = 0 ∨ P r) :
    ∀ (n : Nat) {L : List Int} (i : Nat), (∀ x ∈ L, P x) → walkG rg n (L.map f) i = (walkG rf n L i).map f := by
  intro n
  induction n with
  | zero => exact fun _ _ => rfl
  | succ n ih =>
    intro L i hL
    rw [walkG, walkG, List.getElem?_map]
    cases hx : L[i]? with
    | none => rfl
    | some x =>
      have px := hL x (List.mem_of_getElem? hx)
      show walkG rg n (metsL (L.map f) (rg (f x))) (i + 1) = (walkG rf n (metsL L (rf x)) (i + 1)).map f
      rw [hr x px, metsL_map z nz inj (hP x px) hL]
      exact ih (i + 1) fun y hy => (metsL_mem.1 hy).elim (hL y) fun ⟨h1, h2⟩ => (hP x px y h1).resolve_left h2
end Go.Proofs.Ytjjjeeffllelaaa

/- Pages as a list of what each one is; the document's cells as what such pages hold. Of numbers and lists alone. -/
import Derived.Test.YtinoeofimajpdaaRefY
namespace Go.Proofs.Ytinoeofimajpdaa

/-- A page is free; or a block of cells of one size, each in use or not; or the first of c pages of something large; or another one of those. -/
inductive Pg where
  | free
  | blk (s : Int) (us : List Bool)
  | big (c : Nat)
  | rest

/-- The cells that begin in page i. -/
def Pg.cells (F G : Int) (i : Nat) : Pg → List Rc
  | .free => []
  | .rest => []
  | .big c => [⟨F + i * G, c * G, true, true⟩]
  | .blk s us => (List.range us.length).map fun (j : Nat) => ⟨F + i * G + j * s, s, us.getD j false, false⟩

def cellsP (F G : Int) (pgs : List Pg) : List Rc := (List.range pgs.length).flatMap fun i => (pgs.getD i .free).cells F G i

/-- What is asked of pages. -/
structure WF (G : Int) (pgs : List Pg) : Prop where
  blk : ∀ (i : Nat) (s : Int) (us : List Bool), pgs[i]? = some (.blk s us) → 4 ≤ s ∧ s ≤ G / 2 ∧ (us.length : Int) = G / s ∧ true ∈ us
  big : ∀ (i c : Nat), pgs[i]? = some (.big c) → 1 ≤ c ∧ i + c ≤ pgs.length ∧ ∀ j : Nat, i < j → j < i + c → pgs[j]? = some .rest
  rest : ∀ j : Nat, pgs[j]? = some .rest → ∃ i c : Nat, i < j ∧ j < i + c ∧ pgs[i]? = some (.big c)

theorem ofI_at {F G : Int} (g0 : 1 ≤ G) (i : Nat) (x : Int) (x0 : 0 ≤ x) (x1 : x < G) : ofI F G (F + i * G + x) = i := by
  unfold ofI
  have e : F + (i : Int) * G + x - F = x + (i : Int) * G := by omega
  have p : (0 : Int) ≤ (i : Int) * G := Int.mul_nonneg (by omega) (by omega)
  rw [e, tdiv_of (by omega), Int.add_mul_ediv_right _ _ (by omega), Int.ediv_eq_zero_of_lt x0 x1]
  omega

theorem mem_cellsP {F G : Int} {pgs : List Pg} {c : Rc} : c ∈ cellsP F G pgs ↔ ∃ (i : Nat) (x : Pg), pgs[i]? = some x ∧ c ∈ x.cells F G i := by
  unfold cellsP
  rw [List.mem_flatMap]
  constructor
  · rintro ⟨i, hi, hc⟩
    have hi := List.mem_range.1 hi
    refine ⟨i, pgs[i], List.getElem?_eq_getElem hi, ?_⟩
    rwa [List.getD_eq_getElem?_getD, List.getElem?_eq_getElem hi] at hc
  · rintro ⟨i, x, hx, hc⟩
    have hi := (List.getElem?_eq_some_iff.1 hx).1
    refine ⟨i, List.mem_range.2 hi, ?_⟩
    rwa [List.getD_eq_getElem?_getD, hx]

theorem mem_blk {F G : Int} {i : Nat} {s : Int} {us : List Bool} {c : Rc} : c ∈ (Pg.blk s us).cells F G i ↔ ∃ (j : Nat) (u : Bool), us[j]? = some u ∧ c = ⟨F + i * G + j * s, s, u, false⟩ := by
  simp only [Pg.cells, List.mem_map, List.mem_range]
  constructor
  · rintro ⟨j, hj, rfl⟩
    exact ⟨j, us[j], List.getElem?_eq_getElem hj, by rw [List.getD_eq_getElem?_getD, List.getElem?_eq_getElem hj]; rfl⟩
  · rintro ⟨j, u, hu, rfl⟩
    have hj := (List.getElem?_eq_some_iff.1 hu).1
    exact ⟨j, hj, by rw [List.getD_eq_getElem?_getD, hu]; rfl⟩

/-- A cell of a block lies within its page. -/
theorem in_page {G s : Int} {us : List Bool} {j : Nat} (s0 : 4 ≤ s) (hl : (us.length : Int) = G / s) (hj : j < us.length) : 0 ≤ (j : Int) * s ∧ (j : Int) * s + s ≤ G := by
  have h0 : (0 : Int) ≤ (j : Int) * s := Int.mul_nonneg (by omega) (by omega)
  have h1 := Int.mul_le_mul_of_nonneg_right (show (j : Int) + 1 ≤ G / s by omega) (show 0 ≤ s by omega)
  have h2 := Int.ediv_mul_le G (show s ≠ 0 by omega)
  rw [Int.add_mul, Int.one_mul] at h1
  omega

/-- Which pages a cell takes. -/
theorem cell_pages {F G : Int} {pgs : List Pg} (g0 : 1 ≤ G) (wf : WF G pgs) {i : Nat} {x : Pg} {c : Rc} (hx : pgs[i]? = some x) (hc : c ∈ x.cells F G i) :
    ofI F G c.pos = i ∧ ∃ k : Nat, 1 ≤ k ∧ ofI F G (c.pos + c.words - 1) = i + k - 1 ∧ ((k = 1 ∧ ∃ s us, x = .blk s us) ∨ x = .big k) := by
  cases x with
  | free => simp [Pg.cells] at hc
  | rest => simp [Pg.cells] at hc
  | big k =>
    obtain rfl : c = ⟨F + i * G, k * G, true, true⟩ := by simpa [Pg.cells] using hc
    obtain ⟨k1, _, _⟩ := wf.big i k hx
    have e := ofI_at (F := F) g0 i 0 (by omega) (by omega)
    rw [Int.add_zero] at e
    refine ⟨e, k, k1, ?_, Or.inr rfl⟩
    have e2 := ofI_at (F := F) g0 (i + k - 1) (G - 1) (by omega) (by omega)
    have m : ((i + k - 1 : Nat) : Int) * G = i * G + k * G - G := by
      rw [show ((i + k - 1 : Nat) : Int) = (i : Int) + k - 1 by omega, Int.sub_mul, Int.add_mul, Int.one_mul]
    rw [m] at e2
    show ofI F G (F + i * G + k * G - 1) = _
    rw [show F + (i : Int) * G + (k : Int) * G - 1 = F + ((i : Int) * G + (k : Int) * G - G) + (G - 1) by omega, e2]
    omega
  | blk s us =>
    obtain ⟨j, u, hu, rfl⟩ := mem_blk.1 hc
    obtain ⟨s0, s1, hl, _⟩ := wf.blk i s us hx
    obtain ⟨p0, p1⟩ := in_page s0 hl (List.getElem?_eq_some_iff.1 hu).1
    refine ⟨ofI_at g0 i _ p0 (by omega), 1, Nat.le_refl _, ?_, Or.inl ⟨rfl, s, us, rfl⟩⟩
    show ofI F G (F + i * G + j * s + s - 1) = _
    rw [show F + (i : Int) * G + (j : Int) * s + s - 1 = F + (i : Int) * G + ((j : Int) * s + s - 1) by omega, ofI_at g0 i _ (by omega) (by omega)]
    omega

/-- A page is free just if nothing lies in it. -/
theorem freeB_iff {F G : Int} {cs : List Rc} {pgs : List Pg} (g0 : 1 ≤ G) (wf : WF G pgs) (hp : cs.Perm (cellsP F G pgs)) {n : Nat} (hn : n < pgs.length) : freeB F G cs n = true ↔ pgs[n]? = some .free := by
  rw [freeB, List.all_eq_true]
  have hx : pgs[n]? = some pgs[n] := List.getElem?_eq_getElem hn
  constructor
  · intro h
    have no : ∀ (i : Nat) (x : Pg) (c : Rc) (k : Nat), pgs[i]? = some x → c ∈ x.cells F G i → ofI F G c.pos = i → ofI F G (c.pos + c.words - 1) = ((i + k - 1 : Nat) : Int) → i ≤ n → n ≤ i + k - 1 → False := fun i x c k hx hc h1 h2 h3 h4 => by
      have := h c (hp.mem_iff.2 (mem_cellsP.2 ⟨i, x, hx, hc⟩))
      rw [onB, h1, h2, decide_eq_true (by omega), decide_eq_true (by omega)] at this
      simp at this
    cases hg : pgs[n] with
    | free => rw [hx, hg]
    | rest =>
      rw [hg] at hx
      obtain ⟨i, k, hi1, hi2, hb⟩ := wf.rest n hx
      have hc : (⟨F + i * G, k * G, true, true⟩ : Rc) ∈ (Pg.big k).cells F G i := by simp [Pg.cells]
      obtain ⟨e1, k', k1, e2, e3⟩ := cell_pages g0 wf hb hc
      rcases e3 with ⟨_, s, us, e⟩ | e
      · cases e
      · cases e
        exact (no i _ _ k hb hc e1 (by omega) (by omega) (by omega)).elim
    | big k =>
      rw [hg] at hx
      have hc : (⟨F + n * G, k * G, true, true⟩ : Rc) ∈ (Pg.big k).cells F G n := by simp [Pg.cells]
      obtain ⟨e1, k', k1, e2, _⟩ := cell_pages g0 wf hx hc
      exact (no n _ _ k' hx hc e1 (by omega) (by omega) (by omega)).elim
    | blk s us =>
      rw [hg] at hx
      obtain ⟨_, _, _, ht⟩ := wf.blk n s us hx
      obtain ⟨j, hj, he⟩ := List.getElem_of_mem ht
      have hc : (⟨F + n * G + j * s, s, true, false⟩ : Rc) ∈ (Pg.blk s us).cells F G n := mem_blk.2 ⟨j, true, by rw [List.getElem?_eq_getElem hj, he], rfl⟩
      obtain ⟨e1, k', k1, e2, _⟩ := cell_pages g0 wf hx hc
      exact (no n _ _ k' hx hc e1 (by omega) (by omega) (by omega)).elim
  · intro h c hc
    obtain ⟨i, x, hi, hcx⟩ := mem_cellsP.1 (hp.mem_iff.1 hc)
    obtain ⟨e1, k, k1, e2, e3⟩ := cell_pages g0 wf hi hcx
    rw [onB, e1, e2]
    have off : ¬ (i ≤ n ∧ n < i + k) := by
      rintro ⟨a1, a2⟩
      by_cases e : i = n
      · subst e
        rw [h] at hi
        cases hi
        simp [Pg.cells] at hcx
      · rcases e3 with ⟨e4, _⟩ | e4
        · omega
        · subst e4
          have := (wf.big i k hi).2.2 n (by omega) (by omega)
          rw [h] at this
          cases this
    by_cases a1 : (i : Int) ≤ (n : Int)
    · rw [decide_eq_false (show ¬ (n : Int) ≤ (i : Int) + k - 1 by omega), Bool.and_false]
      rfl
    · rw [decide_eq_false a1, Bool.false_and]
      rfl
end Go.Proofs.Ytinoeofimajpdaa

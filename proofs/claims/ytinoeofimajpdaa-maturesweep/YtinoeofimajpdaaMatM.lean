/- Of pages and cells, of numbers and lists alone: what the program's loops go over. -/
import Derived.Test.YtinoeofimajpdaaMatB
namespace Go.Proofs.Ytinoeofimajpdaa

def Pg.isBig : Pg → Bool
  | .big _ => true
  | _ => false

/-- Cell j of page i. -/
def Pg.cell (F G : Int) (i : Nat) (x : Pg) (j : Nat) : Rc := ⟨F + i * G + j * x.size G, x.size G, x.flags.getD j false, x.isBig⟩

theorem Pg.cells_eq (F G : Int) (i : Nat) (x : Pg) : x.cells F G i = (List.range x.flags.length).map (x.cell F G i) := by
  cases x with
  | free => rfl
  | rest => rfl
  | big c => simp [Pg.cells, Pg.flags, Pg.cell, Pg.size, Pg.isBig, List.range_succ]
  | blk s us => rfl

theorem Pg.cells_length (F G : Int) (i : Nat) (x : Pg) : (x.cells F G i).length = x.flags.length := by rw [Pg.cells_eq]; simp

theorem Pg.cells_at (F G : Int) (i : Nat) (x : Pg) {j : Nat} (hj : j < x.flags.length) : (x.cells F G i)[j]? = some (x.cell F G i j) := by
  rw [Pg.cells_eq, List.getElem?_map, List.getElem?_range hj]; rfl

theorem Pg.mem_cells {F G : Int} {i : Nat} {x : Pg} {c : Rc} : c ∈ x.cells F G i ↔ ∃ j : Nat, j < x.flags.length ∧ c = x.cell F G i j := by
  rw [Pg.cells_eq, List.mem_map]
  constructor
  · rintro ⟨j, hj, rfl⟩; exact ⟨j, List.mem_range.1 hj, rfl⟩
  · rintro ⟨j, hj, rfl⟩; exact ⟨j, List.mem_range.2 hj, rfl⟩

theorem cellsP_take (F G : Int) {pgs : List Pg} {k : Nat} {x : Pg} (hx : pgs[k]? = some x) : cellsP F G (pgs.take (k + 1)) = cellsP F G (pgs.take k) ++ x.cells F G k := by
  have hk := (List.getElem?_eq_some_iff.1 hx).1
  unfold cellsP
  rw [List.length_take, List.length_take, Nat.min_eq_left (by omega), Nat.min_eq_left (by omega), List.range_succ, List.flatMap_append, List.flatMap_cons, List.flatMap_nil, List.append_nil]
  congr 1
  · apply flatMap_ext
    intro i hi
    have := List.mem_range.1 hi
    rw [List.getD_eq_getElem?_getD, List.getD_eq_getElem?_getD, List.getElem?_take_of_lt (by omega), List.getElem?_take_of_lt (by omega)]
  · rw [List.getD_eq_getElem?_getD, List.getElem?_take_of_lt (by omega), hx]
    rfl

theorem usedI_append (xs ys : List Rc) : usedI (xs ++ ys) = usedI xs + usedI ys := by
  induction xs with
  | nil => simp [usedI]
  | cons c xs ih => simp only [List.cons_append, usedI, ih]; omega

theorem starts_append (f t : Int) (xs ys : List Rc) : ((xs ++ ys).filter (inB f t)).map Rc.pos = (xs.filter (inB f t)).map Rc.pos ++ (ys.filter (inB f t)).map Rc.pos := by
  rw [List.filter_append, List.map_append]

theorem kind_first (x : Pg) : firstB x.kind = x.first := by cases x <;> rfl

/-- What is in use and begins at n is a cell of the page that n is in. -/
theorem hit_page {F G n : Int} {pgs : List Pg} (g0 : 1 ≤ G) (wf : WF G pgs) {c : Rc} (hc : (cellsP F G pgs).find? (hitB n) = some c) :
    ∃ (i j : Nat) (x : Pg), pgs[i]? = some x ∧ j < x.flags.length ∧ c = x.cell F G i j ∧ n = F + i * G + j * x.size G ∧ x.flags[j]? = some true ∧ ofI F G n = i := by
  have hm := List.mem_of_find?_eq_some hc
  have hh := List.find?_some hc
  simp only [hitB, Bool.and_eq_true, decide_eq_true_eq] at hh
  obtain ⟨i, x, hx, hcx⟩ := mem_cellsP.1 hm
  have hp := (cell_pages g0 wf hx hcx).1
  obtain ⟨j, hj, rfl⟩ := Pg.mem_cells.1 hcx
  refine ⟨i, j, x, hx, hj, rfl, hh.1.symm, ?_, by rw [← hh.1]; exact hp⟩
  have h2 : x.flags.getD j false = true := hh.2
  rw [List.getD_eq_getElem?_getD, List.getElem?_eq_getElem hj] at h2
  rw [List.getElem?_eq_getElem hj]
  exact congrArg some h2

theorem hit_some {F G : Int} {pgs : List Pg} (g0 : 1 ≤ G) (wf : WF G pgs) {i j : Nat} {x : Pg} (hx : pgs[i]? = some x) (hj : x.flags[j]? = some true) :
    (cellsP F G pgs).find? (hitB (F + i * G + j * x.size G)) = some (x.cell F G i j) := by
  have hjl := (List.getElem?_eq_some_iff.1 hj).1
  have hm : x.cell F G i j ∈ cellsP F G pgs := mem_cellsP.2 ⟨i, x, hx, Pg.mem_cells.2 ⟨j, hjl, rfl⟩⟩
  have hu : (x.cell F G i j).used = true := by
    show x.flags.getD j false = true
    rw [List.getD_eq_getElem?_getD, hj]; rfl
  cases e : (cellsP F G pgs).find? (hitB (F + i * G + j * x.size G)) with
  | none =>
    rw [List.find?_eq_none] at e
    exact absurd (show hitB (F + i * G + j * x.size G) (x.cell F G i j) = true from by rw [hitB, hu, Bool.and_true]; exact decide_eq_true rfl) (e _ hm)
  | some c =>
    have hcm := List.mem_of_find?_eq_some e
    have hh := List.find?_some e
    simp only [hitB, Bool.and_eq_true, decide_eq_true_eq] at hh
    rw [pos_unique g0 wf hcm hm hh.1]

/-- A cell lies within its space. -/
theorem hit_in {F G n : Int} {pgs : List Pg} (g0 : 1 ≤ G) (wf : WF G pgs) {i j : Nat} {x : Pg} (hx : pgs[i]? = some x) (hj : j < x.flags.length) (hn : n = F + i * G + j * x.size G) :
    0 ≤ (j : Int) * x.size G ∧ (j : Int) * x.size G < G ∧ F + i * G ≤ n ∧ n < F + i * G + G := by
  have key : 0 ≤ (j : Int) * x.size G ∧ (j : Int) * x.size G < G := by
    cases x with
    | free => simp [Pg.flags] at hj
    | rest => simp [Pg.flags] at hj
    | big c =>
      simp only [Pg.flags, List.length_singleton] at hj
      obtain rfl : j = 0 := by omega
      simp; omega
    | blk s us =>
      obtain ⟨s0, s1, hl, _⟩ := wf.blk i s us hx
      have := in_page s0 hl (show j < us.length from hj)
      show 0 ≤ (j : Int) * s ∧ (j : Int) * s < G
      omega
  omega
end Go.Proofs.Ytinoeofimajpdaa

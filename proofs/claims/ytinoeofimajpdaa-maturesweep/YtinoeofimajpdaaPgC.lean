/- What the document answers of cells is what the pages say. Of numbers and lists alone. -/
import Derived.Test.YtinoeofimajpdaaPgB
namespace Go.Proofs.Ytinoeofimajpdaa

theorem perm_sorted {xs ys : List Int} (hp : xs.Perm ys) (hx : xs.Pairwise (· ≤ ·)) (hy : ys.Pairwise (· ≤ ·)) : xs = ys := by
  induction xs generalizing ys with
  | nil => exact (List.nil_perm.1 hp).symm
  | cons a xs ih =>
    cases ys with
    | nil => exact absurd hp.symm (by intro h; have := List.nil_perm.1 h; cases this)
    | cons b ys =>
      obtain ⟨ha, hx2⟩ := List.pairwise_cons.1 hx
      obtain ⟨hb, hy2⟩ := List.pairwise_cons.1 hy
      have ab : a = b := by
        have h1 : a ∈ b :: ys := hp.mem_iff.1 (List.mem_cons_self ..)
        have h2 : b ∈ a :: xs := hp.mem_iff.2 (List.mem_cons_self ..)
        rcases List.mem_cons.1 h1 with h1 | h1
        · exact h1
        · rcases List.mem_cons.1 h2 with h2 | h2
          · exact h2.symm
          · exact Int.le_antisymm (ha b h2) (hb a h1)
      subst ab
      rw [ih hp.cons_inv hx2 hy2]

/-- No two cells begin at one place. -/
theorem pos_unique {F G : Int} {pgs : List Pg} (g0 : 1 ≤ G) (wf : WF G pgs) {c d : Rc} (hc : c ∈ cellsP F G pgs) (hd : d ∈ cellsP F G pgs) (e : c.pos = d.pos) : c = d := by
  obtain ⟨i, x, hx, hcx⟩ := mem_cellsP.1 hc
  obtain ⟨k, y, hy, hdy⟩ := mem_cellsP.1 hd
  have e1 := (cell_pages g0 wf hx hcx).1
  have e2 := (cell_pages g0 wf hy hdy).1
  rw [e, e2] at e1
  obtain rfl : k = i := by omega
  rw [hx] at hy
  cases hy
  cases x with
  | free => simp [Pg.cells] at hcx
  | rest => simp [Pg.cells] at hcx
  | big m =>
    simp only [Pg.cells, List.mem_singleton] at hcx hdy
    rw [hcx, hdy]
  | blk s us =>
    obtain ⟨j, u, hu, rfl⟩ := mem_blk.1 hcx
    obtain ⟨j', u', hu', rfl⟩ := mem_blk.1 hdy
    obtain ⟨s0, _⟩ := wf.blk k s us hx
    have e3 : (j : Int) * s = (j' : Int) * s := by
      have e : F + (k : Int) * G + (j : Int) * s = F + (k : Int) * G + (j' : Int) * s := e
      omega
    obtain rfl : j = j' := by
      have := Int.eq_of_mul_eq_mul_right (show s ≠ 0 by omega) e3
      omega
    rw [hu] at hu'
    cases hu'
    rfl

theorem find_eq {F G : Int} {cs : List Rc} {pgs : List Pg} (g0 : 1 ≤ G) (h : Rel F G cs pgs) (n : Int) : cs.find? (hitB n) = (cellsP F G pgs).find? (hitB n) := by
  cases e1 : cs.find? (hitB n) with
  | none =>
    symm
    rw [List.find?_eq_none] at e1 ⊢
    exact fun c hc => e1 c (h.perm.mem_iff.2 hc)
  | some c =>
    have hc := List.mem_of_find?_eq_some e1
    have hh := List.find?_some e1
    cases e2 : (cellsP F G pgs).find? (hitB n) with
    | none =>
      rw [List.find?_eq_none] at e2
      exact absurd hh (e2 c (h.perm.mem_iff.1 hc))
    | some d =>
      have hd := List.mem_of_find?_eq_some e2
      have hh2 := List.find?_some e2
      simp only [hitB, Bool.and_eq_true, decide_eq_true_eq] at hh hh2
      rw [pos_unique g0 h.wf (h.perm.mem_iff.1 hc) hd (hh.1.trans hh2.1.symm)]

def Pg.isFree : Pg → Bool
  | .free => true
  | _ => false

/-- Is it a block, or the first page of something large? -/
def Pg.first : Pg → Bool
  | .blk _ _ => true
  | .big _ => true
  | _ => false

theorem hasB_at {F G : Int} {cs : List Rc} {pgs : List Pg} (g0 : 1 ≤ G) (h : Rel F G cs pgs) {n : Nat} {x : Pg} (hx : pgs[n]? = some x) : hasB F G cs n = x.first := by
  have no : (∀ c, c ∉ x.cells F G n) → hasB F G cs n = false := fun hno => by
    rw [hasB, List.any_eq_false]
    intro c hc hd
    obtain ⟨i, y, hy, hcy⟩ := mem_cellsP.1 (h.perm.mem_iff.1 hc)
    have := (cell_pages g0 h.wf hy hcy).1
    have hd := of_decide_eq_true hd
    obtain rfl : i = n := by omega
    rw [hx] at hy
    cases hy
    exact hno c hcy
  have yes : ∀ c, c ∈ x.cells F G n → hasB F G cs n = true := fun c hc => by
    rw [hasB, List.any_eq_true]
    exact ⟨c, h.perm.mem_iff.2 (mem_cellsP.2 ⟨n, x, hx, hc⟩), decide_eq_true (cell_pages g0 h.wf hx hc).1⟩
  cases x with
  | free => exact no fun c hc => by simp [Pg.cells] at hc
  | rest => exact no fun c hc => by simp [Pg.cells] at hc
  | big k => exact yes ⟨F + n * G, k * G, true, true⟩ (by simp [Pg.cells])
  | blk s us =>
    obtain ⟨_, _, _, ht⟩ := h.wf.blk n s us hx
    obtain ⟨j, hj, e⟩ := List.getElem_of_mem ht
    exact yes ⟨F + n * G + j * s, s, true, false⟩ (mem_blk.2 ⟨j, true, by rw [List.getElem?_eq_getElem hj, e], rfl⟩)

theorem pend_eq {F G : Int} {cs : List Rc} {pgs : List Pg} (g0 : 1 ≤ G) (h : Rel F G cs pgs) : ((List.range pgs.length).map fun k : Nat => hasB F G cs (k : Int)) = pgs.map Pg.first := by
  apply List.ext_getElem?
  intro i
  by_cases hi : i < pgs.length
  · rw [List.getElem?_map, List.getElem?_map, List.getElem?_range hi, List.getElem?_eq_getElem hi]
    simp only [Option.map_some]
    rw [hasB_at g0 h (List.getElem?_eq_getElem hi)]
  · rw [List.getElem?_eq_none (by simp; omega), List.getElem?_eq_none (by simp; omega)]

theorem freeB_at {F G : Int} {cs : List Rc} {pgs : List Pg} (g0 : 1 ≤ G) (h : Rel F G cs pgs) {n : Nat} {x : Pg} (hx : pgs[n]? = some x) : freeB F G cs n = x.isFree := by
  have k := freeB_iff g0 h.wf h.perm (List.getElem?_eq_some_iff.1 hx).1
  rw [hx] at k
  cases e : freeB F G cs n with
  | true =>
    have := k.1 e
    cases this
    rfl
  | false =>
    cases x with
    | free => rw [k.2 rfl] at e; cases e
    | _ => rfl

/-- How many of the first k pages are free. -/
theorem freesI_eq {F G : Int} {cs : List Rc} {pgs : List Pg} (g0 : 1 ≤ G) (h : Rel F G cs pgs) {k : Nat} (hk : k ≤ pgs.length) : freesI F G cs k = ((pgs.take k).countP Pg.isFree : Nat) := by
  induction k with
  | zero => simp [freesI]
  | succ k ih =>
    have hx : pgs[k]? = some pgs[k] := List.getElem?_eq_getElem (by omega)
    rw [freesI, ih (by omega), freeB_at g0 h hx, take_snoc hx, List.countP_append, List.countP_singleton]
    cases pgs[k].isFree <;> simp

theorem usedI_perm {cs ds : List Rc} (h : cs.Perm ds) : usedI cs = usedI ds := by
  induction h with
  | nil => rfl
  | cons c _ ih => simp only [usedI, ih]
  | swap c d l => simp only [usedI]; omega
  | trans _ _ h1 h2 => exact h1.trans h2

/-- The places of the pages' cells rise. -/
theorem cellsP_rise {F G : Int} {pgs : List Pg} (g0 : 1 ≤ G) (wf : WF G pgs) : ((cellsP F G pgs).map Rc.pos).Pairwise (· < ·) := by
  rw [List.pairwise_map, cellsP, List.pairwise_flatMap]
  have lies : ∀ (i : Nat) (c : Rc), i < pgs.length → c ∈ (pgs.getD i .free).cells F G i → F + i * G ≤ c.pos ∧ c.pos < F + i * G + G := fun i c hi hc => by
    have hx : pgs[i]? = some pgs[i] := List.getElem?_eq_getElem hi
    rw [List.getD_eq_getElem?_getD, hx] at hc
    simp only [Option.getD_some] at hc
    generalize pgs[i] = x at hx hc
    cases x with
    | free => simp [Pg.cells] at hc
    | rest => simp [Pg.cells] at hc
    | big m => obtain rfl : c = ⟨F + i * G, m * G, true, true⟩ := by simpa [Pg.cells] using hc
               exact ⟨Int.le_refl _, by show F + (i : Int) * G < F + (i : Int) * G + G; omega⟩
    | blk s us =>
      obtain ⟨j, u, hu, rfl⟩ := mem_blk.1 hc
      obtain ⟨s0, _, hl, _⟩ := wf.blk i s us hx
      obtain ⟨p0, p1⟩ := in_page s0 hl (List.getElem?_eq_some_iff.1 hu).1
      exact ⟨by show F + (i : Int) * G ≤ F + (i : Int) * G + (j : Int) * s; omega, by show F + (i : Int) * G + (j : Int) * s < F + (i : Int) * G + G; omega⟩
  refine ⟨fun i hi => ?_, ?_⟩
  · have hi := List.mem_range.1 hi
    have hx : pgs[i]? = some pgs[i] := List.getElem?_eq_getElem hi
    rw [List.getD_eq_getElem?_getD, hx]
    simp only [Option.getD_some]
    generalize pgs[i] = x at hx
    cases x with
    | free => exact List.Pairwise.nil
    | rest => exact List.Pairwise.nil
    | big m => exact List.pairwise_singleton _ _
    | blk s us =>
      obtain ⟨s0, _⟩ := wf.blk i s us hx
      show ((List.range us.length).map fun (j : Nat) => (⟨F + i * G + j * s, s, us.getD j false, false⟩ : Rc)).Pairwise _
      rw [List.pairwise_map]
      refine List.Pairwise.imp ?_ (List.pairwise_lt_range (n := us.length))
      intro j k hjk
      have := Int.mul_lt_mul_of_pos_right (show (j : Int) < k by omega) (show 0 < s by omega)
      show F + (i : Int) * G + (j : Int) * s < F + (i : Int) * G + (k : Int) * s
      omega
  · refine List.Pairwise.imp_of_mem ?_ (List.pairwise_lt_range (n := pgs.length))
    intro i k hi hk hik c hc d hd
    have h1 := lies i c (List.mem_range.1 hi) hc
    have h2 := lies k d (List.mem_range.1 hk) hd
    have h3 := Int.mul_le_mul_of_nonneg_right (show (i : Int) + 1 ≤ k by omega) (show 0 ≤ G by omega)
    rw [Int.add_mul, Int.one_mul] at h3
    omega

/-- Where what is in use begins, in a part. -/
def startsP (F G : Int) (pgs : List Pg) (f t : Int) : List Int := ((cellsP F G pgs).filter (inB f t)).map Rc.pos

theorem starts_eq {F G : Int} {cs : List Rc} {pgs : List Pg} (g0 : 1 ≤ G) (h : Rel F G cs pgs) {f t : Int} {ys : List Int} (hs : ys.Pairwise (· ≤ ·)) (hp : ys.Perm ((cs.filter (inB f t)).map Rc.pos)) : ys = startsP F G pgs f t := by
  refine perm_sorted (hp.trans ((h.perm.filter _).map _)) hs ?_
  have := cellsP_rise (F := F) g0 h.wf
  rw [List.pairwise_map] at this
  rw [startsP, List.pairwise_map]
  exact (this.filter _).imp fun h => Int.le_of_lt h
end Go.Proofs.Ytinoeofimajpdaa

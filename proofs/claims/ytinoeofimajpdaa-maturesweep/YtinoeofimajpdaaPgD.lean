/- Take and Give of the document, as they turn pages. Of numbers and lists alone. -/
import Derived.Test.YtinoeofimajpdaaPgC
namespace Go.Proofs.Ytinoeofimajpdaa

/-- k pages from p on turn into y. -/
def fill (pgs : List Pg) (y : Pg) (p k : Nat) : List Pg := (List.range pgs.length).map fun i => if p ≤ i ∧ i < p + k then y else pgs.getD i .free

theorem fill_length (pgs : List Pg) (y : Pg) (p k : Nat) : (fill pgs y p k).length = pgs.length := by simp [fill]

theorem fill_at (pgs : List Pg) (y : Pg) (p k i : Nat) (hi : i < pgs.length) : (fill pgs y p k)[i]? = if p ≤ i ∧ i < p + k then some y else pgs[i]? := by
  unfold fill
  rw [List.getElem?_map, List.getElem?_range hi, Option.map_some]
  split
  · rfl
  · rw [List.getD_eq_getElem?_getD, List.getElem?_eq_getElem hi]
    rfl

theorem cellsP_same {F G : Int} {ps qs : List Pg} (hl : ps.length = qs.length) (h : ∀ i, i < ps.length → (ps.getD i .free).cells F G i = (qs.getD i .free).cells F G i) : cellsP F G ps = cellsP F G qs := by
  unfold cellsP
  rw [← hl]
  exact flatMap_ext fun i hi => h i (List.mem_range.1 hi)

theorem cellsP_fill {F G : Int} {pgs : List Pg} {y : Pg} {p k : Nat} (hy : ∀ i, y.cells F G i = []) (h : ∀ i x, p ≤ i → i < p + k → pgs[i]? = some x → x.cells F G i = []) : cellsP F G (fill pgs y p k) = cellsP F G pgs := by
  refine cellsP_same (fill_length ..) fun i hi => ?_
  rw [fill_length] at hi
  rw [List.getD_eq_getElem?_getD, List.getD_eq_getElem?_getD, fill_at _ _ _ _ _ hi]
  split
  · rename_i hr
    rw [Option.getD_some, hy, List.getElem?_eq_getElem hi, Option.getD_some, h i _ hr.1 hr.2 (List.getElem?_eq_getElem hi)]
  · rfl

/-- Pages from p on become something large. -/
def bigAt (pgs : List Pg) (p C : Nat) : List Pg := (fill pgs .rest p C).set p (.big C)

theorem bigAt_at (pgs : List Pg) (p C i : Nat) (hi : i < pgs.length) : (bigAt pgs p C)[i]? = if i = p then some (.big C) else if p ≤ i ∧ i < p + C then some .rest else pgs[i]? := by
  unfold bigAt
  by_cases e : i = p
  · subst e
    rw [List.getElem?_set_self (by rw [fill_length]; exact hi), if_pos rfl]
  · rw [List.getElem?_set_ne (by omega), if_neg e, fill_at _ _ _ _ _ hi]

theorem Rel.large {F G : Int} {cs : List Rc} {pgs : List Pg} (h : Rel F G cs pgs) {p C : Nat} (hC : p + C ≤ pgs.length) (h1 : 1 ≤ C) (hf : ∀ i, p ≤ i → i < p + C → pgs[i]? = some .free) :
    Rel F G (cs ++ [⟨F + p * G, C * G, true, true⟩]) (bigAt pgs p C) := by
  have len : (bigAt pgs p C).length = pgs.length := by rw [bigAt, List.length_set, fill_length]
  have at_ := fun i hi => bigAt_at pgs p C i hi
  refine ⟨?_, ⟨fun i s us hb => ?_, fun i c hb => ?_, fun j hb => ?_⟩⟩
  · have hpl : p < (fill pgs .rest p C).length := by rw [fill_length]; omega
    obtain ⟨A, B, e, _⟩ := cellsP_split F G (fill pgs .rest p C) p hpl
    have e0 := e .rest
    rw [set_same (by rw [fill_at _ _ _ _ _ (by omega), if_pos ⟨by omega, by omega⟩]), cellsP_fill (fun _ => rfl) (fun i x i1 i2 hx => by rw [hf i i1 i2] at hx; cases hx; rfl)] at e0
    have hp0 := h.perm
    rw [e0] at hp0
    rw [bigAt, e]
    have h2 : (cs ++ [(⟨F + p * G, C * G, true, true⟩ : Rc)]).Perm ((A ++ B) ++ [⟨F + p * G, C * G, true, true⟩]) := hp0.append_right _
    refine h2.trans ?_
    rw [List.append_assoc]
    exact List.Perm.append_left A List.perm_append_comm
  · have hi : i < pgs.length := by have := (List.getElem?_eq_some_iff.1 hb).1; omega
    rw [at_ i hi] at hb
    split at hb
    · cases hb
    · split at hb
      · cases hb
      · exact h.wf.blk i s us hb
  · have hi : i < pgs.length := by have := (List.getElem?_eq_some_iff.1 hb).1; omega
    rw [at_ i hi] at hb
    split at hb
    · rename_i e
      cases hb
      refine ⟨h1, by omega, fun j j1 j2 => ?_⟩
      rw [at_ j (by omega), if_neg (by omega), if_pos ⟨by omega, by omega⟩]
    · split at hb
      · cases hb
      · obtain ⟨k1, k2, k3⟩ := h.wf.big i c hb
        refine ⟨k1, by omega, fun j j1 j2 => ?_⟩
        have hr := k3 j j1 j2
        rw [at_ j (by omega)]
        have nf : ¬ (p ≤ j ∧ j < p + C) := fun hh => by rw [hf j hh.1 hh.2] at hr; cases hr
        rw [if_neg (fun e => nf ⟨by omega, by omega⟩), if_neg nf]
        exact hr
  · have hj : j < pgs.length := by have := (List.getElem?_eq_some_iff.1 hb).1; omega
    rw [at_ j hj] at hb
    split at hb
    · cases hb
    · split at hb
      · rename_i ne hr
        exact ⟨p, C, by omega, by omega, by rw [at_ p (by omega), if_pos rfl]⟩
      · obtain ⟨i, c, i1, i2, i3⟩ := h.wf.rest j hb
        refine ⟨i, c, i1, i2, ?_⟩
        rw [at_ i (by omega)]
        have nf : ¬ (p ≤ i ∧ i < p + C) := fun hh => by rw [hf i hh.1 hh.2] at i3; cases i3
        rw [if_neg (fun e => nf ⟨by omega, by omega⟩), if_neg nf]
        exact i3

/-- Something large is given back. -/
theorem Rel.unlarge {F G : Int} {cs : List Rc} {pgs : List Pg} (g0 : 1 ≤ G) (h : Rel F G cs pgs) {p c b : Nat} {u : Bool} (hx : pgs[p]? = some (.big c)) (hb : cs[b]? = some ⟨F + p * G, c * G, true, true⟩) :
    Rel F G ((cs.set b ⟨F + p * G, c * G, u, true⟩).filter (otherB F G p)) (fill pgs .free p c) := by
  obtain ⟨k1, k2, k3⟩ := h.wf.big p c hx
  have hp := (List.getElem?_eq_some_iff.1 hx).1
  have len := fill_length pgs .free p c
  have at_ := fun i hi => fill_at pgs .free p c i hi
  refine ⟨?_, ⟨fun i s us hh => ?_, fun i d hh => ?_, fun j hh => ?_⟩⟩
  · obtain ⟨A, B, e, ho⟩ := cellsP_split F G pgs p hp
    have e0 := e (.big c)
    rw [set_same hx] at e0
    have hp0 := h.perm
    rw [e0] at hp0
    have h1 : cs.Perm (A ++ (⟨F + p * G, c * G, true, true⟩ : Rc) :: B) := hp0
    have h2 := (perm_set (c' := ⟨F + p * G, c * G, u, true⟩) hb h1).filter (otherB F G p)
    have far : ∀ d ∈ A ++ B, otherB F G p d = true := fun d hd => by
      obtain ⟨i, x, hi, hxi, hcx⟩ := ho d hd
      have := (cell_pages g0 h.wf hxi hcx).1
      simp only [otherB, this, Bool.not_eq_true', decide_eq_false_iff_not]
      omega
    have here : otherB F G p ⟨F + p * G, c * G, u, true⟩ = false := by
      have := ofI_at (F := F) g0 p 0 (by omega) (by omega)
      rw [Int.add_zero] at this
      simp [otherB, this]
    rw [List.filter_append, List.filter_cons_of_neg (by rw [here]; exact Bool.false_ne_true), List.filter_eq_self.2 fun d hd => far d (List.mem_append_left _ hd), List.filter_eq_self.2 fun d hd => far d (List.mem_append_right _ hd)] at h2
    have e1 : cellsP F G (fill pgs .free p c) = A ++ B := by
      have e2 := e .free
      rw [show ((Pg.free).cells F G p ++ B) = B from rfl] at e2
      rw [← e2]
      refine cellsP_same (by rw [len, List.length_set]) fun i hi => ?_
      rw [len] at hi
      rw [List.getD_eq_getElem?_getD, List.getD_eq_getElem?_getD, at_ i hi]
      by_cases ei : i = p
      · subst ei
        rw [if_pos ⟨by omega, by omega⟩, List.getElem?_set_self hp]
      · rw [List.getElem?_set_ne (by omega)]
        split
        · rename_i hr
          rw [k3 i (by omega) hr.2]
          rfl
        · rfl
    rw [e1]
    exact h2
  · have hi : i < pgs.length := by have := (List.getElem?_eq_some_iff.1 hh).1; omega
    rw [at_ i hi] at hh
    split at hh
    · cases hh
    · exact h.wf.blk i s us hh
  · have hi : i < pgs.length := by have := (List.getElem?_eq_some_iff.1 hh).1; omega
    rw [at_ i hi] at hh
    split at hh
    · cases hh
    · rename_i nr
      obtain ⟨m1, m2, m3⟩ := h.wf.big i d hh
      refine ⟨m1, by omega, fun j j1 j2 => ?_⟩
      have hr := m3 j j1 j2
      rw [at_ j (by omega)]
      have nf : ¬ (p ≤ j ∧ j < p + c) := fun hj => by
        -- two large things do not share a page
        by_cases ep : j = p
        · subst ep; rw [hx] at hr; cases hr
        · rcases Nat.lt_or_ge i p with q | q
          · have := m3 p q (by omega)
            rw [hx] at this; cases this
          · exact nr ⟨q, by omega⟩
      rw [if_neg nf]
      exact hr
  · have hj : j < pgs.length := by have := (List.getElem?_eq_some_iff.1 hh).1; omega
    rw [at_ j hj] at hh
    split at hh
    · cases hh
    · rename_i nr
      obtain ⟨i, d, i1, i2, i3⟩ := h.wf.rest j hh
      refine ⟨i, d, i1, i2, ?_⟩
      rw [at_ i (by omega)]
      have nf : ¬ (p ≤ i ∧ i < p + c) := fun hi => by
        by_cases ep : i = p
        · subst ep
          rw [hx] at i3
          cases i3
          exact nr ⟨by omega, by omega⟩
        · have := k3 i (by omega) hi.2
          rw [i3] at this; cases this
      rw [if_neg nf]
      exact i3
end Go.Proofs.Ytinoeofimajpdaa

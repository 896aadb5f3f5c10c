/- What turns of the cells when a page turns: cells are the pages' up to their order. Of numbers and lists alone. -/
import Derived.Test.YtinoeofimajpdaaPgA
namespace Go.Proofs.Ytinoeofimajpdaa

/-- The cells are those of the pages, in any order. -/
structure Rel (F G : Int) (cs : List Rc) (pgs : List Pg) : Prop where
  perm : cs.Perm (cellsP F G pgs)
  wf : WF G pgs

theorem flatMap_ext {α β : Type} {l : List α} {f g : α → List β} (h : ∀ x ∈ l, f x = g x) : l.flatMap f = l.flatMap g := by
  induction l with
  | nil => rfl
  | cons a l ih => rw [List.flatMap_cons, List.flatMap_cons, h a (List.mem_cons_self ..), ih fun x hx => h x (List.mem_cons_of_mem _ hx)]

theorem set_same {α : Type} {l : List α} {p : Nat} {x : α} (h : l[p]? = some x) : l.set p x = l := by
  apply List.ext_getElem?
  intro i
  by_cases e : i = p
  · subst e; rw [List.getElem?_set_self (List.getElem?_eq_some_iff.1 h).1, h]
  · rw [List.getElem?_set_ne (by omega)]

theorem perm_set {cs L R : List Rc} {b : Nat} {c c' : Rc} (hb : cs[b]? = some c) (hp : cs.Perm (L ++ c :: R)) : (cs.set b c').Perm (L ++ c' :: R) := by
  have aux : ∀ (cs : List Rc) (b : Nat), cs[b]? = some c → cs.Perm (c :: cs.eraseIdx b) ∧ (cs.set b c').Perm (c' :: cs.eraseIdx b) := by
    intro cs
    induction cs with
    | nil => intro b hb; simp at hb
    | cons d cs ih =>
      intro b hb
      cases b with
      | zero =>
        obtain rfl : d = c := by simpa using hb
        exact ⟨List.Perm.refl _, List.Perm.refl _⟩
      | succ b =>
        obtain ⟨h1, h2⟩ := ih b (by simpa using hb)
        simp only [List.eraseIdx_cons_succ, List.set_cons_succ]
        exact ⟨(h1.cons d).trans (List.Perm.swap ..), (h2.cons d).trans (List.Perm.swap ..)⟩
  obtain ⟨h1, h2⟩ := aux cs b hb
  have h3 : (c :: cs.eraseIdx b).Perm (c :: (L ++ R)) := (h1.symm.trans hp).trans List.perm_middle
  exact h2.trans ((h3.cons_inv.cons c').trans List.perm_middle.symm)

/-- One page turns: what begins in other pages stays. -/
theorem cellsP_split (F G : Int) (pgs : List Pg) (p : Nat) (hp : p < pgs.length) :
    ∃ A B : List Rc, (∀ y, cellsP F G (pgs.set p y) = A ++ (y.cells F G p ++ B)) ∧ (∀ c ∈ A ++ B, ∃ (i : Nat) (x : Pg), i ≠ p ∧ pgs[i]? = some x ∧ c ∈ x.cells F G i) := by
  refine ⟨(List.range p).flatMap fun i => (pgs.getD i .free).cells F G i, (List.range' (p + 1) (pgs.length - p - 1)).flatMap fun i => (pgs.getD i .free).cells F G i, fun y => ?_, ?_⟩
  · unfold cellsP
    rw [List.length_set]
    have e : List.range pgs.length = List.range p ++ (p :: List.range' (p + 1) (pgs.length - p - 1)) := by
      rw [List.range_eq_range', List.range_eq_range', show pgs.length = p + (1 + (pgs.length - p - 1)) by omega, ← List.range'_append_1]
      congr 1
      rw [Nat.zero_add, Nat.add_comm 1, List.range'_succ]
      congr 2
      omega
    rw [e, List.flatMap_append, List.flatMap_cons]
    congr 1
    · apply flatMap_ext
      intro i hi
      have := List.mem_range.1 hi
      rw [List.getD_eq_getElem?_getD, List.getElem?_set_ne (by omega), ← List.getD_eq_getElem?_getD]
    · congr 1
      · rw [List.getD_eq_getElem?_getD, List.getElem?_set_self hp]
        rfl
      · apply flatMap_ext
        intro i hi
        have := (List.mem_range'_1.1 hi).1
        rw [List.getD_eq_getElem?_getD, List.getElem?_set_ne (by omega), ← List.getD_eq_getElem?_getD]
  · intro c hc
    have get : ∀ i, i < pgs.length → i ≠ p → c ∈ (pgs.getD i .free).cells F G i → ∃ (i : Nat) (x : Pg), i ≠ p ∧ pgs[i]? = some x ∧ c ∈ x.cells F G i := fun i hi hne h =>
      ⟨i, pgs[i], hne, List.getElem?_eq_getElem hi, by rwa [List.getD_eq_getElem?_getD, List.getElem?_eq_getElem hi] at h⟩
    rcases List.mem_append.1 hc with h | h
    · obtain ⟨i, hi, h⟩ := List.mem_flatMap.1 h
      have := List.mem_range.1 hi
      exact get i (by omega) (by omega) h
    · obtain ⟨i, hi, h⟩ := List.mem_flatMap.1 h
      have := List.mem_range'_1.1 hi
      exact get i (by omega) (by omega) h

/-- A page that is no part of something large turns into one that is none either. -/
theorem WF.turn {G : Int} {pgs : List Pg} (wf : WF G pgs) {p : Nat} {x y : Pg} (hx : pgs[p]? = some x) (h1 : x = .free ∨ ∃ s us, x = .blk s us)
    (h2 : y = .free ∨ ∃ s us, y = .blk s us ∧ 4 ≤ s ∧ s ≤ G / 2 ∧ (us.length : Int) = G / s ∧ true ∈ us) : WF G (pgs.set p y) := by
  have hp := (List.getElem?_eq_some_iff.1 hx).1
  have nb : ∀ c, x ≠ .big c := fun c e => by rcases h1 with h | ⟨s, us, h⟩ <;> rw [h] at e <;> cases e
  have nr : x ≠ .rest := fun e => by rcases h1 with h | ⟨s, us, h⟩ <;> rw [h] at e <;> cases e
  have yb : ∀ c, y ≠ .big c := fun c e => by rcases h2 with h | ⟨s, us, h, _⟩ <;> rw [h] at e <;> cases e
  have yr : y ≠ .rest := fun e => by rcases h2 with h | ⟨s, us, h, _⟩ <;> rw [h] at e <;> cases e
  have at_ : ∀ i : Nat, (pgs.set p y)[i]? = if i = p then some y else pgs[i]? := fun i => by
    by_cases e : i = p
    · subst e; rw [List.getElem?_set_self hp, if_pos rfl]
    · rw [List.getElem?_set_ne (by omega), if_neg e]
  refine ⟨fun i s us h => ?_, fun i c h => ?_, fun j h => ?_⟩
  · rw [at_] at h
    by_cases e : i = p
    · rw [if_pos e] at h
      cases h
      rcases h2 with h | ⟨s', us', h, k⟩
      · cases h
      · cases h; exact k
    · rw [if_neg e] at h
      exact wf.blk i s us h
  · rw [at_] at h
    by_cases e : i = p
    · rw [if_pos e] at h
      exact absurd (Option.some.inj h) (yb c)
    · rw [if_neg e] at h
      obtain ⟨k1, k2, k3⟩ := wf.big i c h
      refine ⟨k1, by rw [List.length_set]; exact k2, fun j j1 j2 => ?_⟩
      have := k3 j j1 j2
      rw [at_, if_neg (fun e => by subst e; rw [hx] at this; exact nr (Option.some.inj this))]
      exact this
  · rw [at_] at h
    by_cases e : j = p
    · rw [if_pos e] at h
      exact absurd (Option.some.inj h) yr
    · rw [if_neg e] at h
      obtain ⟨i, c, i1, i2, i3⟩ := wf.rest j h
      refine ⟨i, c, i1, i2, ?_⟩
      rw [at_, if_neg (fun e => by subst e; rw [hx] at i3; exact nb c (Option.some.inj i3))]
      exact i3

/-- The flags of a new block. -/
def us0 (k : Nat) : List Bool := (List.range k).map fun j => decide (j = 0)

theorem newC_cells (F G s : Int) (p k : Nat) : newC (F + p * G) s k = (Pg.blk s (us0 k)).cells F G p := by
  show _ = (List.range (us0 k).length).map fun (j : Nat) => (⟨F + p * G + j * s, s, (us0 k).getD j false, false⟩ : Rc)
  unfold newC us0
  rw [List.length_map, List.length_range]
  apply List.map_congr_left
  intro j hj
  have := List.mem_range.1 hj
  simp [List.getD_eq_getElem?_getD, this]

/-- A free page becomes a block. -/
theorem Rel.fresh {F G : Int} {cs : List Rc} {pgs : List Pg} (h : Rel F G cs pgs) {p : Nat} {s : Int} (hx : pgs[p]? = some .free) (s0 : 4 ≤ s) (s1 : s ≤ G / 2) :
    Rel F G (cs ++ newC (F + p * G) s (G / s).toNat) (pgs.set p (.blk s (us0 (G / s).toNat))) := by
  have hp := (List.getElem?_eq_some_iff.1 hx).1
  have q2 : 2 ≤ G / s := (Int.le_ediv_iff_mul_le (by omega)).2 (by omega)
  obtain ⟨A, B, e, _⟩ := cellsP_split F G pgs p hp
  refine ⟨?_, h.wf.turn hx (Or.inl rfl) (Or.inr ⟨s, _, rfl, s0, s1, by simp [us0]; omega, ?_⟩)⟩
  · rw [e, newC_cells]
    have e0 := e .free
    rw [show pgs.set p .free = pgs from set_same hx] at e0
    have hp0 := h.perm
    rw [e0] at hp0
    have h1 : (cs ++ (Pg.blk s (us0 (G / s).toNat)).cells F G p).Perm ((A ++ B) ++ (Pg.blk s (us0 (G / s).toNat)).cells F G p) := hp0.append_right _
    refine h1.trans ?_
    rw [List.append_assoc]
    exact List.Perm.append_left A List.perm_append_comm
  · rw [us0, List.mem_map]
    exact ⟨0, List.mem_range.2 (by omega), rfl⟩

theorem blk_split (F G : Int) (p : Nat) (s : Int) (us : List Bool) (j : Nat) (hj : j < us.length) : ∃ L R : List Rc, ∀ u, (Pg.blk s (us.set j u)).cells F G p = L ++ (⟨F + p * G + j * s, s, u, false⟩ : Rc) :: R := by
  refine ⟨(List.range j).map fun (i : Nat) => ⟨F + p * G + i * s, s, us.getD i false, false⟩, (List.range' (j + 1) (us.length - j - 1)).map fun (i : Nat) => ⟨F + p * G + i * s, s, us.getD i false, false⟩, fun u => ?_⟩
  show (List.range (us.set j u).length).map (fun (i : Nat) => (⟨F + p * G + i * s, s, (us.set j u).getD i false, false⟩ : Rc)) = _
  rw [List.length_set]
  have e : List.range us.length = List.range j ++ (j :: List.range' (j + 1) (us.length - j - 1)) := by
    rw [List.range_eq_range', List.range_eq_range', show us.length = j + (1 + (us.length - j - 1)) by omega, ← List.range'_append_1]
    congr 1
    rw [Nat.zero_add, Nat.add_comm 1, List.range'_succ]
    congr 2
    omega
  rw [e, List.map_append, List.map_cons]
  congr 1
  · apply List.map_congr_left
    intro i hi
    have := List.mem_range.1 hi
    rw [List.getD_eq_getElem?_getD, List.getElem?_set_ne (by omega), ← List.getD_eq_getElem?_getD]
  · congr 1
    · rw [List.getD_eq_getElem?_getD, List.getElem?_set_self hj]
      rfl
    · apply List.map_congr_left
      intro i hi
      have := (List.mem_range'_1.1 hi).1
      rw [List.getD_eq_getElem?_getD, List.getElem?_set_ne (by omega), ← List.getD_eq_getElem?_getD]

/-- The cells, one of which has its flag turned, are the pages' with that flag turned. -/
theorem perm_turn {F G : Int} {cs : List Rc} {pgs : List Pg} (h : cs.Perm (cellsP F G pgs)) {p j b : Nat} {s : Int} {us : List Bool} {u : Bool} (hx : pgs[p]? = some (.blk s us)) (hu : us[j]? = some u)
    (hb : cs[b]? = some ⟨F + p * G + j * s, s, u, false⟩) (u' : Bool) : (cs.set b ⟨F + p * G + j * s, s, u', false⟩).Perm (cellsP F G (pgs.set p (.blk s (us.set j u')))) := by
  obtain ⟨A, B, e, _⟩ := cellsP_split F G pgs p (List.getElem?_eq_some_iff.1 hx).1
  obtain ⟨L, R, e2⟩ := blk_split F G p s us j (List.getElem?_eq_some_iff.1 hu).1
  have e0 := e (.blk s us)
  rw [set_same hx] at e0
  have e3 := e2 u
  rw [set_same hu] at e3
  rw [e0, e3] at h
  rw [e, e2 u']
  have h' : cs.Perm ((A ++ L) ++ (⟨F + p * G + j * s, s, u, false⟩ : Rc) :: (R ++ B)) := by simpa using h
  have := perm_set (c' := ⟨F + p * G + j * s, s, u', false⟩) hb h'
  simpa using this

/-- A cell of a block is taken. -/
theorem Rel.reuse {F G : Int} {cs : List Rc} {pgs : List Pg} (h : Rel F G cs pgs) {p j b : Nat} {s : Int} {us : List Bool} {u : Bool} (hx : pgs[p]? = some (.blk s us)) (hu : us[j]? = some u)
    (hb : cs[b]? = some ⟨F + p * G + j * s, s, u, false⟩) : Rel F G (cs.set b ⟨F + p * G + j * s, s, true, false⟩) (pgs.set p (.blk s (us.set j true))) := by
  obtain ⟨k1, k2, k3, _⟩ := h.wf.blk p s us hx
  exact ⟨perm_turn h.perm hx hu hb true, h.wf.turn hx (Or.inr ⟨s, us, rfl⟩) (Or.inr ⟨s, _, rfl, k1, k2, by rw [List.length_set]; exact k3, List.mem_set (List.getElem?_eq_some_iff.1 hu).1 true⟩)⟩

/-- A cell of a block is given back, and another is in use still. -/
theorem Rel.lessen {F G : Int} {cs : List Rc} {pgs : List Pg} (h : Rel F G cs pgs) {p j b : Nat} {s : Int} {us : List Bool} {u : Bool} (hx : pgs[p]? = some (.blk s us)) (hu : us[j]? = some u)
    (hb : cs[b]? = some ⟨F + p * G + j * s, s, u, false⟩) (ht : true ∈ us.set j false) : Rel F G (cs.set b ⟨F + p * G + j * s, s, false, false⟩) (pgs.set p (.blk s (us.set j false))) := by
  obtain ⟨k1, k2, k3, _⟩ := h.wf.blk p s us hx
  exact ⟨perm_turn h.perm hx hu hb false, h.wf.turn hx (Or.inr ⟨s, us, rfl⟩) (Or.inr ⟨s, _, rfl, k1, k2, by rw [List.length_set]; exact k3, ht⟩)⟩

/-- What begins in page p is struck. -/
theorem filter_page {F G : Int} {pgs : List Pg} (g0 : 1 ≤ G) (wf : WF G pgs) {p : Nat} (hp : p < pgs.length) {ds : List Rc} {y : Pg} (hd : ds.Perm (cellsP F G (pgs.set p y))) (hy : ∀ c ∈ y.cells F G p, ofI F G c.pos = p) :
    (ds.filter (otherB F G p)).Perm (cellsP F G (pgs.set p .free)) := by
  obtain ⟨A, B, e, ho⟩ := cellsP_split F G pgs p hp
  rw [e] at hd
  rw [e]
  have h1 := hd.filter (otherB F G p)
  have far : ∀ c ∈ A ++ B, otherB F G p c = true := fun c hc => by
    obtain ⟨i, x, hi, hx, hcx⟩ := ho c hc
    have := (cell_pages g0 wf hx hcx).1
    simp only [otherB, this, Bool.not_eq_true', decide_eq_false_iff_not]
    omega
  have h2 : (A ++ (y.cells F G p ++ B)).filter (otherB F G p) = A ++ B := by
    rw [List.filter_append, List.filter_append, List.filter_eq_self.2 fun c hc => far c (List.mem_append_left _ hc), List.filter_eq_self.2 fun c hc => far c (List.mem_append_right _ hc),
      List.filter_eq_nil_iff.2 fun c hc => by simp [otherB, hy c hc]]
    rfl
  rw [h2] at h1
  exact h1

/-- The last cell in use of a block is given back: the page is free. -/
theorem Rel.empty {F G : Int} {cs : List Rc} {pgs : List Pg} (g0 : 1 ≤ G) (h : Rel F G cs pgs) {p j b : Nat} {s : Int} {us : List Bool} {u : Bool} (hx : pgs[p]? = some (.blk s us)) (hu : us[j]? = some u)
    (hb : cs[b]? = some ⟨F + p * G + j * s, s, u, false⟩) : Rel F G ((cs.set b ⟨F + p * G + j * s, s, false, false⟩).filter (otherB F G p)) (pgs.set p .free) := by
  obtain ⟨k1, k2, k3, _⟩ := h.wf.blk p s us hx
  refine ⟨filter_page g0 h.wf (List.getElem?_eq_some_iff.1 hx).1 (perm_turn h.perm hx hu hb false) fun c hc => ?_, h.wf.turn hx (Or.inr ⟨s, us, rfl⟩) (Or.inl rfl)⟩
  obtain ⟨i, v, hv, rfl⟩ := mem_blk.1 hc
  have hi := (List.getElem?_eq_some_iff.1 hv).1
  rw [List.length_set] at hi
  obtain ⟨p0, p1⟩ := in_page k1 k3 hi
  exact ofI_at g0 p _ p0 (by omega)
end Go.Proofs.Ytinoeofimajpdaa

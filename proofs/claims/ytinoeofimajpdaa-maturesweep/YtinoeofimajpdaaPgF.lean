/- Give, as the document says it of pages; that it has one answer; and that the document's own space does just that. Of numbers and lists alone. -/
import Derived.Test.YtinoeofimajpdaaPgE
namespace Go.Proofs.Ytinoeofimajpdaa

/-- Give of a place. -/
def GiveA (F G : Int) (ps : List Bool) (pgs : List Pg) (n : Int) (ok : Bool) (pgs' : List Pg) (ps' : List Bool) : Prop :=
  ((cellsP F G pgs).find? (hitB n) = none ∧ ok = false ∧ pgs' = pgs ∧ ps' = ps) ∨
  (∃ (p j : Nat) (s : Int) (us : List Bool), pgs[p]? = some (.blk s us) ∧ us[j]? = some true ∧ n = F + p * G + j * s ∧ ok = true ∧
    ((true ∈ us.set j false ∧ pgs' = pgs.set p (.blk s (us.set j false)) ∧ ps' = ps) ∨ (true ∉ us.set j false ∧ pgs' = pgs.set p .free ∧ ps' = ps.set p false))) ∨
  (∃ p c : Nat, pgs[p]? = some (.big c) ∧ n = F + p * G ∧ ok = true ∧ pgs' = fill pgs .free p c ∧ ps' = ps.set p false)

theorem GiveA.one {F G : Int} {ps ps1 ps2 : List Bool} {pgs qs rs : List Pg} {n : Int} {d e : Bool} (g0 : 1 ≤ G) (wf : WF G pgs) (h : GiveA F G ps pgs n d qs ps1) (k : GiveA F G ps pgs n e rs ps2) : d = e ∧ qs = rs ∧ ps1 = ps2 := by
  have hitb : ∀ (p j : Nat) (s : Int) (us : List Bool), pgs[p]? = some (.blk s us) → us[j]? = some true → n = F + p * G + j * s → (⟨n, s, true, false⟩ : Rc) ∈ cellsP F G pgs := fun p j s us h1 h2 h3 => by
    subst h3
    exact mem_cellsP.2 ⟨p, _, h1, mem_blk.2 ⟨j, true, h2, rfl⟩⟩
  have hitl : ∀ p c : Nat, pgs[p]? = some (.big c) → n = F + p * G → (⟨n, c * G, true, true⟩ : Rc) ∈ cellsP F G pgs := fun p c h1 h3 => by
    subst h3
    exact mem_cellsP.2 ⟨p, _, h1, by simp [Pg.cells]⟩
  have no : ∀ c : Rc, c ∈ cellsP F G pgs → c.pos = n → c.used = true → (cellsP F G pgs).find? (hitB n) ≠ none := fun c hc h1 h2 hn => by
    rw [List.find?_eq_none] at hn
    exact hn c hc (by simp [hitB, h1, h2])
  have pg : ∀ (p : Nat) (x : Pg) (c : Rc), pgs[p]? = some x → c ∈ x.cells F G p → c.pos = n → ofI F G n = p := fun p x c h1 h2 h3 => by rw [← h3]; exact (cell_pages g0 wf h1 h2).1
  rcases h with ⟨a1, rfl, rfl, rfl⟩ | ⟨p, j, s, us, a1, a2, a3, rfl, a4⟩ | ⟨p, c, a1, a2, rfl, rfl, rfl⟩ <;> rcases k with ⟨b1, rfl, rfl, rfl⟩ | ⟨q, i, t, vs, b1, b2, b3, rfl, b4⟩ | ⟨q, m, b1, b2, rfl, rfl, rfl⟩
  · exact ⟨rfl, rfl, rfl⟩
  · exact absurd a1 (no _ (hitb q i t vs b1 b2 b3) rfl rfl)
  · exact absurd a1 (no _ (hitl q m b1 b2) rfl rfl)
  · exact absurd b1 (no _ (hitb p j s us a1 a2 a3) rfl rfl)
  · have e1 := pg p _ ⟨n, s, true, false⟩ a1 (by rw [a3]; exact mem_blk.2 ⟨j, true, a2, rfl⟩) rfl
    have e2 := pg q _ ⟨n, t, true, false⟩ b1 (by rw [b3]; exact mem_blk.2 ⟨i, true, b2, rfl⟩) rfl
    obtain rfl : p = q := by omega
    rw [a1] at b1
    cases b1
    obtain ⟨s0, _⟩ := wf.blk p s us a1
    obtain rfl : j = i := by
      have e3 : (j : Int) * s = (i : Int) * s := by omega
      have := Int.eq_of_mul_eq_mul_right (show s ≠ 0 by omega) e3
      omega
    rcases a4 with ⟨a5, rfl, rfl⟩ | ⟨a5, rfl, rfl⟩ <;> rcases b4 with ⟨b5, rfl, rfl⟩ | ⟨b5, rfl, rfl⟩
    · exact ⟨rfl, rfl, rfl⟩
    · exact absurd a5 b5
    · exact absurd b5 a5
    · exact ⟨rfl, rfl, rfl⟩
  · have e := pos_unique g0 wf (hitb p j s us a1 a2 a3) (hitl q m b1 b2) rfl
    cases e
  · exact absurd b1 (no _ (hitl p c a1 a2) rfl rfl)
  · have e := pos_unique g0 wf (hitl p c a1 a2) (hitb q i t vs b1 b2 b3) rfl
    cases e
  · have e1 := pg p _ ⟨n, c * G, true, true⟩ a1 (by rw [a2]; simp [Pg.cells]) rfl
    have e2 := pg q _ ⟨n, m * G, true, true⟩ b1 (by rw [b2]; simp [Pg.cells]) rfl
    obtain rfl : p = q := by omega
    rw [a1] at b1
    cases b1
    exact ⟨rfl, rfl, rfl⟩

theorem someB_perm {F G n : Int} {cs ds : List Rc} (h : cs.Perm ds) : someB F G n cs = someB F G n ds := by
  have : ∀ xs ys : List Rc, xs.Perm ys → someB F G n xs = true → someB F G n ys = true := fun xs ys hp hx => by
    rw [someB, List.any_eq_true] at hx ⊢
    obtain ⟨c, hc, hb⟩ := hx
    exact ⟨c, hp.mem_iff.1 hc, hb⟩
  cases e1 : someB F G n cs <;> cases e2 : someB F G n ds
  · rfl
  · rw [this ds cs h.symm e2] at e1; cases e1
  · rw [this cs ds h e1] at e2; cases e2
  · rfl

/-- What is in use of what begins in a page that has turned into y. -/
theorem someB_page {F G : Int} {pgs : List Pg} (g0 : 1 ≤ G) (wf : WF G pgs) {p : Nat} (hp : p < pgs.length) {ds : List Rc} {y : Pg} (hd : ds.Perm (cellsP F G (pgs.set p y))) (hy : ∀ c ∈ y.cells F G p, ofI F G c.pos = p) :
    someB F G p ds = (y.cells F G p).any Rc.used := by
  obtain ⟨A, B, e, ho⟩ := cellsP_split F G pgs p hp
  rw [someB_perm hd, e]
  have far : ∀ c ∈ A ++ B, (decide (ofI F G c.pos = p) && c.used) = false := fun c hc => by
    obtain ⟨i, x, hi, hx, hcx⟩ := ho c hc
    have := (cell_pages g0 wf hx hcx).1
    rw [this, decide_eq_false (by omega), Bool.false_and]
  unfold someB
  have zA : (A.any fun c => decide (ofI F G c.pos = p) && c.used) = false := List.any_eq_false.2 fun c hc => by rw [far c (List.mem_append_left _ hc)]; exact Bool.false_ne_true
  have zB : (B.any fun c => decide (ofI F G c.pos = p) && c.used) = false := List.any_eq_false.2 fun c hc => by rw [far c (List.mem_append_right _ hc)]; exact Bool.false_ne_true
  rw [List.any_append, List.any_append, zA, zB, Bool.false_or, Bool.or_false]
  cases e1 : (y.cells F G p).any Rc.used
  · rw [List.any_eq_false] at e1 ⊢
    intro c hc hb
    simp only [Bool.and_eq_true] at hb
    exact e1 c hc hb.2
  · rw [List.any_eq_true] at e1 ⊢
    obtain ⟨c, hc, hb⟩ := e1
    exact ⟨c, hc, by rw [hb, decide_eq_true (hy c hc)]; rfl⟩

theorem blk_any {F G : Int} {p : Nat} {s : Int} {us : List Bool} : ((Pg.blk s us).cells F G p).any Rc.used = true ↔ true ∈ us := by
  rw [List.any_eq_true]
  constructor
  · rintro ⟨c, hc, hb⟩
    obtain ⟨j, u, hu, rfl⟩ := mem_blk.1 hc
    obtain rfl : u = true := hb
    exact List.mem_of_getElem? hu
  · intro h
    obtain ⟨j, hj, e⟩ := List.getElem_of_mem h
    exact ⟨⟨F + p * G + j * s, s, true, false⟩, mem_blk.2 ⟨j, true, by rw [List.getElem?_eq_getElem hj, e], rfl⟩, rfl⟩

theorem give_pages {F G : Int} {cs : List Rc} {pgs : List Pg} (g0 : 1 ≤ G) (h : Rel F G cs pgs) (ps : List Bool) (n : Int) :
    ∃ pgs', GiveA F G ps pgs n (cs.findIdx? (hitB n)).isSome pgs' (giveP F G n cs ps) ∧ Rel F G (giveC F G n cs) pgs' := by
  cases hf : cs.findIdx? (hitB n) with
  | none =>
    refine ⟨pgs, Or.inl ⟨?_, rfl, rfl, by simp only [giveP, hf]⟩, by simp only [giveC, hf]; exact h⟩
    rw [← find_eq g0 h n, List.find?_eq_none]
    rw [List.findIdx?_eq_none_iff] at hf
    exact fun c hc => by rw [hf c hc]; exact Bool.false_ne_true
  | some i =>
    obtain ⟨hil, hhit, _⟩ := List.findIdx?_eq_some_iff_getElem.1 hf
    have hc : cs[i]? = some cs[i] := List.getElem?_eq_getElem hil
    generalize cs[i] = c at hc hhit
    simp only [hitB, Bool.and_eq_true, decide_eq_true_eq] at hhit
    obtain ⟨rfl, hu⟩ := hhit
    have em := modify_set cs i c (fun c => { c with used := false }) hc
    simp only [giveC, giveP, hf, em]
    obtain ⟨p, x, hx, hcx⟩ := mem_cellsP.1 (h.perm.mem_iff.1 (List.mem_of_getElem? hc))
    have hp := (List.getElem?_eq_some_iff.1 hx).1
    have e1 := (cell_pages g0 h.wf hx hcx).1
    rw [e1, Int.toNat_natCast]
    cases x with
    | free => simp [Pg.cells] at hcx
    | rest => simp [Pg.cells] at hcx
    | big m =>
      obtain rfl : c = ⟨F + p * G, m * G, true, true⟩ := by simpa [Pg.cells] using hcx
      have hd : someB F G p (cs.set i ⟨F + p * G, m * G, false, true⟩) = false := by
        obtain ⟨A, B, e, ho⟩ := cellsP_split F G pgs p hp
        have e0 := e (.big m)
        rw [set_same hx] at e0
        have hp0 := h.perm
        rw [e0] at hp0
        rw [someB_perm (perm_set (c' := ⟨F + p * G, m * G, false, true⟩) hc hp0), someB, List.any_eq_false]
        intro d hd hb
        simp only [Bool.and_eq_true, decide_eq_true_eq] at hb
        rcases List.mem_append.1 hd with hd | hd
        · obtain ⟨q, y, hq, hy, hdy⟩ := ho d (List.mem_append_left _ hd)
          have := (cell_pages g0 h.wf hy hdy).1
          omega
        · rcases List.mem_cons.1 hd with rfl | hd
          · cases hb.2
          · obtain ⟨q, y, hq, hy, hdy⟩ := ho d (List.mem_append_right _ hd)
            have := (cell_pages g0 h.wf hy hdy).1
            omega
      rw [hd, if_neg Bool.false_ne_true, if_neg Bool.false_ne_true]
      exact ⟨_, Or.inr (Or.inr ⟨p, m, hx, rfl, rfl, rfl, rfl⟩), h.unlarge g0 hx hc⟩
    | blk s us =>
      obtain ⟨j, u, hj, rfl⟩ := mem_blk.1 hcx
      obtain rfl : u = true := hu
      obtain ⟨k1, _, k3, _⟩ := h.wf.blk p s us hx
      have hd := someB_page g0 h.wf hp (perm_turn h.perm hx hj hc false) fun c hc => by
        obtain ⟨i, v, hv, rfl⟩ := mem_blk.1 hc
        have hi := (List.getElem?_eq_some_iff.1 hv).1
        rw [List.length_set] at hi
        obtain ⟨p0, p1⟩ := in_page k1 k3 hi
        exact ofI_at g0 p _ p0 (by omega)
      by_cases ht : true ∈ us.set j false
      · rw [hd, if_pos (blk_any.2 ht), if_pos (blk_any.2 ht)]
        exact ⟨_, Or.inr (Or.inl ⟨p, j, s, us, hx, hj, rfl, rfl, Or.inl ⟨ht, rfl, rfl⟩⟩), h.lessen hx hj hc ht⟩
      · rw [hd, if_neg (fun e => ht (blk_any.1 e)), if_neg (fun e => ht (blk_any.1 e))]
        exact ⟨_, Or.inr (Or.inl ⟨p, j, s, us, hx, hj, rfl, rfl, Or.inr ⟨ht, rfl, rfl⟩⟩), h.empty g0 hx hj hc⟩

/-- Nothing: pages that are all free. -/
theorem Rel.new (F G : Int) (N : Nat) : Rel F G [] (List.replicate N .free) := by
  have no : ∀ (i : Nat) (x : Pg), (List.replicate N Pg.free)[i]? = some x → x = .free := fun i x h => by
    rw [List.getElem?_replicate] at h
    split at h
    · cases h; rfl
    · cases h
  refine ⟨?_, ⟨fun i s us h => ?_, fun i c h => ?_, fun j h => ?_⟩⟩
  · have : cellsP F G (List.replicate N .free) = [] := by
      rw [List.eq_nil_iff_forall_not_mem]
      intro c hc
      obtain ⟨i, x, hx, hcx⟩ := mem_cellsP.1 hc
      rw [no i x hx] at hcx
      simp [Pg.cells] at hcx
    rw [this]
  · cases no i _ h
  · cases no i _ h
  · cases no j _ h
end Go.Proofs.Ytinoeofimajpdaa

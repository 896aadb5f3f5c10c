/- Pages of which all that was taken has one size: what is given back is taken again. Of numbers and lists alone. -/
import Derived.Test.YtinoeofimajpdaaApart6
namespace Go.Proofs.Ytinoeofimajpdaa

def UniL (C : Nat) (pgs : List Pg) : Prop := ∀ (i : Nat) (x : Pg), pgs[i]? = some x → x = .free ∨ x = .rest ∨ x = .big C
def UniS (s : Int) (pgs : List Pg) : Prop := ∀ (i : Nat) (x : Pg), pgs[i]? = some x → x = .free ∨ ∃ us, x = .blk s us
/-- Free pages stand at the end. -/
def Suf (pgs : List Pg) : Prop := ∀ i j : Nat, i < j → j < pgs.length → pgs[i]? = some .free → pgs[j]? = some .free

def Uni (G n : Int) (pgs : List Pg) : Prop := (G / 2 < roundI n ∧ UniL (pagesI G n).toNat pgs ∧ Suf pgs) ∨ (¬ G / 2 < roundI n ∧ UniS (roundI n) pgs)

theorem Uni.new (G n : Int) (N : Nat) : Uni G n (List.replicate N .free) := by
  have no : ∀ (i : Nat) (x : Pg), (List.replicate N Pg.free)[i]? = some x → x = .free := fun i x h => by
    rw [List.getElem?_replicate] at h
    split at h
    · cases h; rfl
    · cases h
  by_cases hl : G / 2 < roundI n
  · exact Or.inl ⟨hl, fun i x hx => Or.inl (no i x hx), fun i j _ hj _ => by rw [List.length_replicate] at hj; rw [List.getElem?_replicate, if_pos hj]⟩
  · exact Or.inr ⟨hl, fun i x hx => Or.inl (no i x hx)⟩

theorem set_at {pgs : List Pg} {p : Nat} (hp : p < pgs.length) (y : Pg) (i : Nat) : (pgs.set p y)[i]? = if i = p then some y else pgs[i]? := by
  by_cases e : i = p
  · subst e; rw [List.getElem?_set_self hp, if_pos rfl]
  · rw [List.getElem?_set_ne (by omega), if_neg e]

theorem Uni.take {F G n : Int} {ps : List Bool} {pgs pgs' : List Pg} {u : Value} (g0 : 1 ≤ G) (h : Uni G n pgs) (ht : TakeA F G ps pgs n u pgs') : Uni G n pgs' := by
  rcases ht with ⟨_, _, rfl⟩ | ⟨hn, hl, ht⟩ | ⟨hn, hl, ht⟩
  · exact h
  · rcases h with ⟨_, hu, hs⟩ | ⟨hl2, _⟩
    · have c1 := (pagesI_enough (p := G) (n := n) g0 (by omega)).1
      generalize hC : (pagesI G n).toNat = C at *
      have c1 : 1 ≤ C := by omega
      rcases ht with ⟨p, hp, hr, hq, _, rfl⟩ | ⟨_, _, rfl⟩
      · have len : (bigAt pgs p C).length = pgs.length := by rw [bigAt, List.length_set, fill_length]
        have pre : ∀ i : Nat, i < p → pgs[i]? ≠ some .free := fun i hi e => hq i hi fun k k1 k2 => by
          by_cases ek : k = i
          · subst ek; exact e
          · exact hs i k (by omega) (by omega) e
        refine Or.inl ⟨hl, ?_, ?_⟩
        · rw [hC]
          intro i x hx
          have hi := (List.getElem?_eq_some_iff.1 hx).1
          rw [len] at hi
          rw [bigAt_at _ _ _ _ hi] at hx
          split at hx
          · cases hx; exact Or.inr (Or.inr rfl)
          · split at hx
            · cases hx; exact Or.inr (Or.inl rfl)
            · exact hu i x hx
        · intro i j hij hj e
          rw [len] at hj
          rw [bigAt_at _ _ _ _ (by omega)] at e
          split at e
          · cases e
          · split at e
            · cases e
            · rename_i h1 h2
              have : ¬ i < p := fun hi => pre i hi e
              rw [bigAt_at _ _ _ _ hj, if_neg (by omega), if_neg (by omega)]
              exact hs i j hij hj e
      · exact Or.inl ⟨hl, by rw [hC]; exact hu, hs⟩
    · exact absurd hl hl2
  · rcases h with ⟨hl2, _⟩ | ⟨_, hu⟩
    · exact absurd hl2 hl
    · refine Or.inr ⟨hl, ?_⟩
      rcases ht with ⟨p, j, us, hp, _, _, _, _, _, rfl⟩ | ⟨_, ⟨p, hp, _, _, rfl⟩ | ⟨_, _, rfl⟩⟩
      · intro i x hx
        rw [set_at (List.getElem?_eq_some_iff.1 hp).1] at hx
        split at hx
        · cases hx; exact Or.inr ⟨_, rfl⟩
        · exact hu i x hx
      · intro i x hx
        rw [set_at (List.getElem?_eq_some_iff.1 hp).1] at hx
        split at hx
        · cases hx; exact Or.inr ⟨_, rfl⟩
        · exact hu i x hx
      · exact hu

theorem no_yes {n : Int} : noV ≠ yesV n := by
  intro e
  simp [noV, yesV] at e

/-- What is given back, of pages that are full, is taken again at the same place; and all is as it was. -/
theorem Uni.again {F G n y : Int} {ps ps1 : List Bool} {pgs pgs1 : List Pg} (wf : WF G pgs) (h : Uni G n pgs) (hn : ¬ n < 1) (hps : ∀ i : Nat, i < pgs.length → ps[i]? = some false) (full : TakeA F G ps pgs n noV pgs) (give : GiveA F G ps pgs y true pgs1 ps1) :
    TakeA F G ps1 pgs1 n (yesV y) pgs ∧ ps1 = ps := by
  have same : ∀ p : Nat, p < pgs.length → ps.set p false = ps := fun p hp => set_same (hps p hp)
  rcases h with ⟨hl, hu, hs⟩ | ⟨hl, hu⟩
  · generalize hC : (pagesI G n).toNat = C at *
    rcases give with ⟨_, e, _⟩ | ⟨p, j, s, us, hp, _⟩ | ⟨p, c, hp, rfl, _, rfl, rfl⟩
    · cases e
    · rcases hu p _ hp with e | e | e <;> cases e
    · have hpl := (List.getElem?_eq_some_iff.1 hp).1
      obtain rfl : c = C := by
        rcases hu p _ hp with e | e | e
        · cases e
        · cases e
        · injection e
      obtain ⟨k1, k2, k3⟩ := wf.big p c hp
      refine ⟨Or.inr (Or.inl ⟨hn, hl, ?_⟩), same p hpl⟩
      rw [hC]
      refine Or.inl ⟨p, by rw [fill_length]; exact k2, fun i i1 i2 => by rw [fill_at _ _ _ _ _ (by omega), if_pos ⟨i1, i2⟩], fun q hq hr => ?_, rfl, ?_⟩
      · have e := hr q (Nat.le_refl _) (by omega)
        rw [fill_at _ _ _ _ _ (by omega), if_neg (by omega)] at e
        have := hs q p hq hpl e
        rw [hp] at this
        cases this
      · apply List.ext_getElem?
        intro i
        by_cases hi : i < pgs.length
        · rw [bigAt_at _ _ _ _ (by rw [fill_length]; exact hi)]
          by_cases e : i = p
          · subst e; rw [if_pos rfl, hp]
          · rw [if_neg e]
            by_cases e2 : p ≤ i ∧ i < p + c
            · rw [if_pos e2, k3 i (by omega) e2.2]
            · rw [if_neg e2, fill_at _ _ _ _ _ hi, if_neg e2]
        · rw [List.getElem?_eq_none (by omega), List.getElem?_eq_none (by rw [bigAt, List.length_set, fill_length, fill_length]; omega)]
  · generalize hS : roundI n = s at *
    have noRoom : ∀ q : Nat, ¬ Room pgs ps s q := by
      rcases full with ⟨h, _⟩ | ⟨_, h, _⟩ | ⟨_, _, ht⟩
      · exact absurd h hn
      · rw [hS] at h; exact absurd h hl
      · rw [hS] at ht
        rcases ht with ⟨_, _, _, _, _, _, _, _, e, _⟩ | ⟨h, _⟩
        · exact absurd e no_yes
        · exact h
    rcases give with ⟨_, e, _⟩ | ⟨p, j, s', us, hp, hj, rfl, _, hc⟩ | ⟨p, c, hp, _⟩
    · cases e
    · have hpl := (List.getElem?_eq_some_iff.1 hp).1
      obtain rfl : s' = s := by
        rcases hu p _ hp with e | ⟨vs, e⟩
        · cases e
        · injection e
      obtain ⟨s0, s1, hlen, _⟩ := wf.blk p s' us hp
      have q2 : 2 ≤ G / s' := (Int.le_ediv_iff_mul_le (by omega)).2 (by omega)
      have nf : false ∉ us := fun hf => noRoom p ⟨us, hp, hps p hpl, hf⟩
      have allT : ∀ i : Nat, i < us.length → us[i]? = some true := fun i hi => by
        have hx : us[i]? = some us[i] := List.getElem?_eq_getElem hi
        cases e : us[i] with
        | true => rw [hx, e]
        | false => exact absurd (by rw [← e]; exact List.getElem_mem hi) nf
      have hjl := (List.getElem?_eq_some_iff.1 hj).1
      have ht : true ∈ us.set j false := by
        obtain ⟨k, hk, hne⟩ : ∃ k, k < us.length ∧ k ≠ j := by
          by_cases e : j = 0
          · exact ⟨1, by omega, by omega⟩
          · exact ⟨0, by omega, by omega⟩
        exact List.mem_of_getElem? (i := k) (by rw [List.getElem?_set_ne (by omega)]; exact allT k hk)
      rcases hc with ⟨_, rfl, rfl⟩ | ⟨hno, _⟩
      · refine ⟨Or.inr (Or.inr ⟨hn, by rw [hS]; exact hl, ?_⟩), rfl⟩
        rw [hS]
        refine Or.inl ⟨p, j, us.set j false, by rw [List.getElem?_set_self hpl], hps p hpl, by rw [List.getElem?_set_self hjl], fun i hi e => ?_, fun q hq hr => ?_, rfl, ?_⟩
        · rw [List.getElem?_set_ne (by omega), allT i (by omega)] at e
          cases e
        · obtain ⟨vs, e1, e2, e3⟩ := hr
          rw [List.getElem?_set_ne (by omega)] at e1
          exact noRoom q ⟨vs, e1, e2, e3⟩
        · rw [List.set_set, List.set_set, set_same hj, set_same hp]
      · exact absurd ht hno
    · rcases hu p _ hp with e | ⟨vs, e⟩ <;> cases e

theorem cellsP_few2 {F G : Int} {pgs : List Pg} (g1 : G ≤ 75) (wf : WF G pgs) : (cellsP F G pgs).length ≤ pgs.length * 18 := by
  unfold cellsP
  rw [List.length_flatMap]
  have one : ∀ i ∈ List.range pgs.length, ((pgs.getD i .free).cells F G i).length ≤ 18 := fun i hi => by
    have hi := List.mem_range.1 hi
    have hx : pgs[i]? = some pgs[i] := List.getElem?_eq_getElem hi
    rw [List.getD_eq_getElem?_getD, hx, Option.getD_some]
    generalize pgs[i] = x at hx
    cases x with
    | free => simp [Pg.cells]
    | rest => simp [Pg.cells]
    | big m => simp [Pg.cells]
    | blk s us =>
      obtain ⟨s0, s1, hl, _⟩ := wf.blk i s us hx
      have h1 : G / s ≤ G / 4 := by
        refine Int.le_ediv_of_mul_le (by omega) ?_
        have h1 := Int.mul_le_mul_of_nonneg_left s0 (show 0 ≤ G / s by omega)
        have h2 := Int.ediv_mul_le G (show s ≠ 0 by omega)
        omega
      show ((List.range us.length).map _).length ≤ 18
      rw [List.length_map, List.length_range]
      omega
  have sum : ∀ l : List Nat, (∀ i ∈ l, ((pgs.getD i .free).cells F G i).length ≤ 18) → (l.map fun i => ((pgs.getD i .free).cells F G i).length).sum ≤ l.length * 18 := by
    intro l
    induction l with
    | nil => intro _; simp
    | cons i l ih =>
      intro h
      have h1 := h i (List.mem_cons_self ..)
      have h2 := ih fun k hk => h k (List.mem_cons_of_mem _ hk)
      simp only [List.map_cons, List.sum_cons, List.length_cons]
      omega
  have := sum _ one
  rwa [List.length_range] at this

theorem used_few {F G : Int} {pgs : List Pg} (g1 : G ≤ 75) (wf : WF G pgs) : (usedP F G pgs).length ≤ pgs.length * 18 := by
  rw [usedP, List.length_map]
  exact Nat.le_trans (List.length_filter_le _ _) (cellsP_few2 g1 wf)
end Go.Proofs.Ytinoeofimajpdaa

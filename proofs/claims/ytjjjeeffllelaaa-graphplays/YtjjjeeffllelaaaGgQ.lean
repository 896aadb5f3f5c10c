/- The program's graph: what entries leave as it is; what is told where no handle holds anything, and the order of what is told: of lists alone. -/
import Derived.Test.YtjjjeeffllelaaaGgO
import Derived.Test.YtjjjeeffllelaaaStepR
import Derived.Test.YtjjjeeffllelaaaRhH
namespace Go.Proofs.Ytjjjeeffllelaaa
open Go.RowKit Go.Maps

section
variable (G : Gr) (k a b c v : Int)
theorem Gr.nxt_hs : (G.nxt k a b c v).hs.length = G.hs.length := by
  unfold Gr.nxt Gr.change Gr.hold Gr.setNode
  (repeat' split) <;> simp
theorem Gr.nxt_ns : (G.nxt k a b c v).ns.length ≤ G.ns.length + 1 := by
  unfold Gr.nxt Gr.change Gr.hold Gr.setNode
  (repeat' split) <;> simp
/-- What has an error has nothing else. -/
theorem Gr.ans_err (h : (G.ans k a b c v).1 ≠ 0) : G.ans k a b c v = ((G.ans k a b c v).1, false, 0, 0) := by
  unfold Gr.ans at h ⊢
  split
  · rfl
  · rename_i hk
    rw [if_neg hk] at h
    unfold Gr.ask at h ⊢
    split <;> rename_i h4
    · rw [if_pos h4] at h
      split <;> rename_i h5
      · rw [if_pos h5] at h
        split <;> rename_i h6
        · rw [if_pos h6] at h; exact absurd rfl h
        · rfl
      · rfl
    · rw [if_neg h4] at h
      split <;> rename_i h5
      · rw [if_pos h5] at h
        split <;> rename_i h6
        · rw [if_pos h6] at h; exact absurd rfl h
        · rfl
      · rw [if_neg h5] at h
        split <;> rename_i h6
        · rw [if_pos h6] at h
          split <;> rename_i h7
          · rw [if_pos h7] at h; exact absurd rfl h
          · rfl
        · rw [if_neg h6] at h
          split <;> rename_i h7
          · rw [if_pos h7] at h
            split <;> rename_i h8
            · rw [if_pos h8] at h; exact absurd rfl h
            · rfl
          · split <;> rfl
theorem Gr.change_err : (G.change k a b c v).1 = 0 ∨ (G.change k a b c v).2 = G := by
  unfold Gr.change
  (repeat' split) <;> (first | exact .inl rfl | exact .inr rfl)
/-- What has an error, or only asks, changes nothing. -/
theorem Gr.nxt_same (h : (G.ans k a b c v).1 ≠ 0 ∨ (k = 4 ∨ k = 8 ∨ k = 9 ∨ k = 10 ∨ k = 11 ∨ k = 12)) : G.nxt k a b c v = G := by
  unfold Gr.nxt
  split
  · rename_i hk
    have h := h.resolve_right (by omega)
    unfold Gr.ans at h
    rw [if_pos hk] at h
    exact (G.change_err k a b c v).resolve_left h
  · rfl
end

theorem Gr.new_hs (h : Int) (l : Int) : (Gr.new h l).hs = List.replicate (nhI h) 0 := rfl
theorem Gr.new_ns (h : Int) (l : Int) : (Gr.new h l).ns.length = 0 := rfl

/-- Where no handle holds anything, nothing is met. -/
theorem Gr.clear_live {G : Gr} (h : ∀ x ∈ G.hs, x = 0) : G.live = [] := by
  have : metsL [] G.hs = [] := by
    have : ∀ xs : List Int, (∀ x ∈ xs, x = 0) → metsL [] xs = [] := by
      intro xs
      induction xs with
      | nil => intro _; rfl
      | cons x xs ih =>
        intro h
        show metsL (metL [] x) xs = []
        rw [h x List.mem_cons_self]
        exact ih fun y hy => h y (List.mem_cons_of_mem _ hy)
    exact this _ h
  unfold Gr.live
  rw [this]
  rfl
theorem Gr.clear_held {G : Gr} (h : ∀ x ∈ G.hs, x = 0) {i : Nat} (hi : i < G.hs.length) : G.heldAt[i]? = some 0 := by
  unfold Gr.heldAt
  rw [List.getElem?_map, List.getElem?_eq_getElem hi, Gr.clear_live h]
  rfl
theorem Gr.clear_words {G : Gr} (h : ∀ x ∈ G.hs, x = 0) : G.words = 0 := by
  unfold Gr.words
  rw [Gr.clear_live h]
  rfl

/-- One handle is cleared. -/
def Cl (G : Gr) (n h : Nat) : Prop := G.hs.length = n ∧ ∀ j, j < h → G.hs[j]? = some 0
theorem Cl.step {G : Gr} {n h : Nat} (c : Cl G n h) (hn : h < n) (b d v : Int) : Cl (G.nxt 6 h b d v) n (h + 1) ∧ (G.nxt 6 h b d v).ns = G.ns := by
  have hh : G.has h = true := by unfold Gr.has; have := c.1; simp; omega
  have e : G.nxt 6 h b d v = G.hold h 0 := by simp [Gr.nxt, Gr.change, hh]
  rw [e]
  refine ⟨⟨by unfold Gr.hold; rw [List.length_set]; exact c.1, fun j hj => ?_⟩, rfl⟩
  unfold Gr.hold
  rw [Int.toNat_natCast]
  dsimp only
  rw [List.getElem?_set]
  by_cases e : h = j
  · subst e
    rw [if_pos rfl, if_pos (by have := c.1; omega)]
  · rw [if_neg e]
    exact c.2 j (by omega)
theorem Cl.all {G : Gr} {n : Nat} (c : Cl G n n) : ∀ x ∈ G.hs, x = 0 := fun x hx => by
  obtain ⟨j, hj⟩ := List.mem_iff_getElem?.1 hx
  have hl := (List.getElem?_eq_some_iff.1 hj).1
  rw [c.2 j (by have := c.1; omega)] at hj
  exact (Option.some.inj hj).symm

/-- What was met when the first i nodes had been gone through. -/
def Gr.metN (G : Gr) : Nat → List Int
  | 0 => metsL [] G.hs
  | i + 1 => metsL (G.metN i) (G.node (G.live.getD i 0)).1

/-- L stands at the front of M. -/
def Pre (L M : List Int) : Prop := ∃ t, M = L ++ t
theorem Pre.refl (L : List Int) : Pre L L := ⟨[], by simp⟩
theorem Pre.trans {L M N : List Int} (h : Pre L M) (k : Pre M N) : Pre L N := by
  obtain ⟨t, rfl⟩ := h
  obtain ⟨u, rfl⟩ := k
  exact ⟨t ++ u, by simp⟩
theorem Pre.mets (xs L : List Int) : Pre L (metsL L xs) := metsL_pre xs L

theorem Gr.walk_metN {G : Gr} (i : Nat) (hi : i ≤ G.live.length) (few : G.live.length ≤ G.ns.length) : G.walkL (G.ns.length + 1 - i) (G.metN i) i = G.live ∧ Pre (G.metN i) G.live := by
  have pre : ∀ (f : Nat) (L : List Int) (j : Nat), Pre L (G.walkL f L j) := fun f L j => by rw [Gr.walkL_eq]; exact walkG_pre _ f L j
  induction i with
  | zero =>
    refine ⟨by rw [Nat.sub_zero]; rfl, pre _ _ _⟩
  | succ i ih =>
    obtain ⟨h1, h2⟩ := ih (by omega)
    have e : G.ns.length + 1 - i = (G.ns.length + 1 - (i + 1)) + 1 := by omega
    have hx : (G.metN i)[i]? = some (G.live.getD i 0) := by
      by_cases hl : i < (G.metN i).length
      · obtain ⟨t, ht⟩ := h2
        rw [List.getD_eq_getElem?_getD, ht, List.getElem?_append_left hl, List.getElem?_eq_getElem hl]
        rfl
      · exfalso
        rw [Gr.walkL_end (by omega)] at h1
        rw [h1] at hl
        omega
    rw [e, Gr.walkL_at hx] at h1
    have e2 : G.metN (i + 1) = metsL (G.metN i) (G.node (G.live.getD i 0)).1 := rfl
    rw [e2]
    have p := pre (G.ns.length + 1 - (i + 1)) (metsL (G.metN i) (G.node (G.live.getD i 0)).1) (i + 1)
    rw [h1] at p
    exact ⟨h1, p⟩
theorem Gr.metN_end {G : Gr} (few : G.live.length ≤ G.ns.length) : G.metN G.live.length = G.live := by
  obtain ⟨h1, t, ht⟩ := Gr.walk_metN (G := G) G.live.length (Nat.le_refl _) few
  by_cases hl : (G.metN G.live.length).length ≤ G.live.length
  · rwa [Gr.walkL_end hl] at h1
  · exfalso
    have := congrArg List.length ht
    rw [List.length_append] at this
    omega

/-- Where something stands. -/
theorem at_pre {M L : List Int} {x : Int} (p : Pre M L) (hx : x ∈ M) : 1 ≤ atL L x ∧ atL L x ≤ M.length := by
  obtain ⟨t, rfl⟩ := p
  have : ∀ (M : List Int) (s : Nat), x ∈ M → (s : Int) + 1 ≤ atF (M ++ t) x s ∧ atF (M ++ t) x s ≤ s + M.length := by
    intro M
    induction M with
    | nil => intro s h; cases h
    | cons y M ih =>
      intro s h
      rw [List.cons_append, atF]
      split
      · rw [List.length_cons]; omega
      · rename_i k
        have hm : x ∈ M := by
          rcases List.mem_cons.1 h with e | e
          · exact absurd e.symm k
          · exact e
        have := ih (s + 1) hm
        rw [List.length_cons]
        omega
  have := this M 0 hx
  unfold atL
  omega
theorem at_new {M L : List Int} {x : Int} (p : Pre (M ++ [x]) L) (hx : x ∉ M) : atL L x = M.length + 1 := by
  obtain ⟨t, rfl⟩ := p
  have : ∀ (M : List Int) (s : Nat), x ∉ M → atF ((M ++ [x]) ++ t) x s = s + M.length + 1 := by
    intro M
    induction M with
    | nil => intro s _; rw [List.nil_append, List.singleton_append, atF, if_pos rfl]; simp
    | cons y M ih =>
      intro s h
      rw [List.mem_cons, not_or] at h
      rw [List.cons_append, List.cons_append, atF, if_neg (Ne.symm h.1), ih (s + 1) h.2, List.length_cons]
      push_cast
      omega
  have := this M 0 hx
  unfold atL
  omega
theorem at_zero {L : List Int} (h : (0 : Int) ∉ L) : atL L 0 = 0 := by
  rcases posF_at L 0 0 with ⟨_, _, k⟩ | ⟨p, _, k, _⟩
  · exact k
  · exact absurd k h

/-- The next number is told, or one that was told before: M was met so far. -/
theorem at_step {M L : List Int} {x : Int} (hz : (0 : Int) ∉ L) (p : Pre (metL M x) L) :
    (0 ≤ atL L x ∧ atL L x ≤ M.length ∧ metL M x = M) ∨ (atL L x = (M.length : Int) + 1 ∧ (metL M x).length = M.length + 1) := by
  by_cases h : x = 0 ∨ x ∈ M
  · have e : metL M x = M := by unfold metL; rw [if_pos h]
    rw [e] at p ⊢
    left
    rcases h with rfl | h
    · rw [at_zero hz]; exact ⟨Int.le_refl _, by omega, rfl⟩
    · have := at_pre p h; exact ⟨by omega, this.2, rfl⟩
  · have e : metL M x = M ++ [x] := by unfold metL; rw [if_neg h]
    rw [e] at p ⊢
    exact .inr ⟨at_new p fun k => h (.inr k), by simp⟩
end Go.Proofs.Ytjjjeeffllelaaa

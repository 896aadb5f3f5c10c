
/- A slice of ints that lies anywhere in a block of its own: cut at its end, copied behind a new one; of no program's own functions. -/
import Derived.Test.YtjjjeeffllelaaaQuA
namespace Go.Proofs.Ytjjjeeffllelaaa
open Go.RowKit

section
variable {w : World} {A : Option Addr} {n c : Nat} {xs : List Int}

/-- Its end cut off. -/
theorem Qu.upto (h : Qu w A n c xs) {m : Nat} (hm : m ≤ n) : Qu w A m c (xs.take m) := by
  refine ⟨by rw [List.length_take, h.len]; omega, Nat.le_trans hm h.le, h.max, h.lies.imp id ?_⟩
  rintro ⟨g, off, cs, rfl, hb, hs, hx⟩
  refine ⟨g, off, cs, rfl, hb, hs, fun i x hi => hx i x ?_⟩
  rw [List.getElem?_take] at hi
  split at hi
  · exact hi
  · cases hi

theorem Qu.but {x : Int} (h : Qu w A (n + 1) c (xs ++ [x])) : Qu w A n c xs := by
  have hl : xs.length = n := by have := h.len; simp at this; exact this
  have q := h.upto (m := n) (by omega)
  rwa [List.take_left' hl] at q

theorem Qu.none_ (h : Qu w A n c xs) : Qu w A 0 c [] := h.upto (m := 0) (Nat.zero_le _)

/-- All of it appended to a new slice without room: a copy. -/
theorem Qu.clone (h : Qu w A n c xs) (few : n ≤ 1048576) (g0 : Nat) (hg : Blk w g0 #[] 3) (ty : TypeId) :
    ∃ A' c' w', (Builtin.append_ #[36, 36] ty #[.slice (some ⟨g0, 0, none⟩) 0 0, .slice A n c]).run Try.prog w = .ok (.slice A' n c') w' ∧ Qu w' A' n c' xs ∧ Below w.heap.size w w' ∧ (∀ k, blkOf A' = some k → k = g0 ∨ w.heap.size ≤ k) := by
  obtain ⟨i0, hi, hz, hs, hby⟩ := info_parts info_int
  by_cases hn : n = 0
  · subst hn
    have hx0 : xs = [] := List.eq_nil_of_length_eq_zero h.len
    subst hx0
    refine ⟨some ⟨g0, 0, none⟩, 0, w, ?_, ⟨rfl, Nat.le_refl _, Nat.zero_le _, .inr ⟨g0, 0, #[], rfl, hg, Nat.le_refl _, fun i x hx => by simp at hx⟩⟩, Below.refl _ _, fun k hk => by cases hk; exact .inl rfl⟩
    cases A <;> simp [Builtin.append_, run_underlying Try.underlying36, sizeOf, typeInfo, hi, Builtin.lenOf, Builtin.firstCells, storeCells, loadCells, loadCellsFrom]
  · rcases h.lies with ⟨rfl, rfl⟩ | ⟨g, off, cs, rfl, hb, hsz, hx⟩
    · exact absurd h.le (by omega)
    · have hnews : ∀ j u, (ints xs)[j]? = some u → w.cell? ((⟨g, off, none⟩ : Addr).add j) = some u := by
        intro j u hj
        rw [Addr.add_lit, hb.cell]
        rw [ints, List.getElem?_map] at hj
        cases e : xs[j]? with
        | none => rw [e] at hj; cases hj
        | some y => rw [e] at hj; cases hj; exact hx j y e
      obtain ⟨v', w', hrun, r1, r2⟩ := run_append_arg_grows (P := Try.prog) w 36 ty 3 i0 (.int .i64 0) 1 8 Try.underlying36 hi hz hs hby rfl (by decide) ⟨g0, 0, none⟩ 0 0 [] rfl
        (fun j u hj => by simp at hj) ⟨g, off, none⟩ n c (ints xs) (by rw [ints, List.length_map, h.len]; omega) hnews (by omega) (by unfold maxLen; omega) (by omega)
      rw [Nat.zero_add, List.nil_append] at r1
      obtain ⟨g', cap, rfl, hB, q⟩ := Qu.of_own hn r1
      exact ⟨_, _, w', hrun, q, below_none r2, fun k hk => by cases hk; exact .inr hB⟩
end

theorem wpList_clone_qu (w : World) {ops : Array Oper} {rest : List Oper} {o : Oper} {a : Act} {Q : Exit → Act → World → Prop} (hgd : o.guard = none) (s x : Operand)
    (ho : o.op = .call { callee := .builtin .append, args := #[s, x], argTypes := #[36, 36] }) {A : Option Addr} {n c : Nat} {xs : List Int} (h : Qu w A n c xs) (few : n ≤ 1048576) (g0 : Nat) (hg : Blk w g0 #[] 3)
    (hs : a.eval s = .slice (some ⟨g0, 0, none⟩) 0 0) (hx : a.eval x = .slice A n c)
    (hK : ∀ A' c' w', Qu w' A' n c' xs → Below w.heap.size w w' → (∀ k, blkOf A' = some k → k = g0 ∨ w.heap.size ≤ k) → wpList Try.prog ops Q rest (a.put o.dst (.slice A' n c')) w') : wpList Try.prog ops Q (o :: rest) a w := by
  refine wpList_plain hgd fun K hK' => ?_
  obtain ⟨A', c', w', hrun, q, g, hf⟩ := h.clone few g0 hg o.type
  unfold Oper.wp execOp
  simp only [ho, resolve, invoke, builtin, Sem.run_bind, Sem.run_pure, Result.andThen_ok, List.map_toArray, List.map_cons, List.map_nil, hs, hx, hrun]
  exact hK' _ _ (hK A' c' w' q g hf)

/-- One of its numbers is written anew. -/
theorem Qu.put {w : World} {g off n c : Nat} {xs : List Int} (h : Qu w (some ⟨g, off, none⟩) n c xs) (i : Nat) (x : Int) : Qu (w.setCell ⟨g, off + i, none⟩ (.int .i64 x)) (some ⟨g, off, none⟩) n c (xs.set i x) := by
  refine ⟨by rw [List.length_set]; exact h.len, h.le, h.max, .inr ?_⟩
  rcases h.lies with ⟨e, _⟩ | ⟨g', off', cs, e, hb, hs, hx⟩
  · cases e
  · cases e
    refine ⟨g, off, _, rfl, hb.set_ (off + i) _, by simpa using hs, fun j y hy => ?_⟩
    rw [List.getElem?_set] at hy
    rw [Array.getElem?_setIfInBounds]
    split at hy
    · rename_i e
      subst e
      split at hy
      · rename_i hl
        cases hy
        have := h.len
        have := h.le
        rw [if_pos rfl, if_pos (by omega)]
      · cases hy
    · rw [if_neg (by omega)]
      exact hx j y hy
end Go.Proofs.Ytjjjeeffllelaaa

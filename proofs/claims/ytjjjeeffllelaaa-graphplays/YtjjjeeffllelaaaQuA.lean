
/- A slice of ints that lies anywhere in a block of its own: read, cut at its front, appended to, copied; of no program's own functions. -/
import Derived.Test.YtjjjeeffllelaaaFlags
import Derived.ArgAppend
import Derived.Maps.AppendAt
namespace Go.Proofs.Ytjjjeeffllelaaa
open Go.RowKit

/-- The slice (A, n, c) holds xs; where it has an address, it lies within one block of ints. -/
structure Qu (w : World) (A : Option Addr) (n c : Nat) (xs : List Int) : Prop where
  len : xs.length = n
  le : n ≤ c
  max : c ≤ maxLen
  lies : (A = none ∧ c = 0) ∨ ∃ g off cs, A = some ⟨g, off, none⟩ ∧ Blk w g cs 3 ∧ off + c ≤ cs.size ∧ ∀ i x, xs[i]? = some x → cs[off + i]? = some (.int .i64 x)

/-- The block that a slice lies in. -/
def blkOf (A : Option Addr) : Option Nat := A.map Addr.block

def ints (ys : List Int) : List Value := ys.map (Value.int .i64)

theorem info_int : (Try.prog.info? 3).map (fun i => (i.zero, i.size, i.bytes)) = some (some (.int .i64 0), 1, 8) := by kernel_rfl

section
variable {w w' : World} {A : Option Addr} {n c : Nat} {xs : List Int}

theorem Qu.lt (h : Qu w A n c xs) {k : Nat} (hk : blkOf A = some k) : k < w.heap.size := by
  rcases h.lies with ⟨rfl, _⟩ | ⟨g, off, cs, rfl, hb, _⟩
  · cases hk
  · cases hk
    exact hb.lt

theorem Qu.frm {S : Nat → Prop} (h : Qu w A n c xs) (f : Frm S w w') (hs : ∀ k, blkOf A = some k → ¬ S k) : Qu w' A n c xs := by
  refine { h with lies := h.lies.imp id ?_ }
  rintro ⟨g, off, cs, rfl, hb, hr⟩
  exact ⟨g, off, cs, rfl, hb.frm f (hs g rfl), hr⟩

theorem Qu.keep (h : Qu w A n c xs) (f : Below w.heap.size w w') : Qu w' A n c xs := h.frm (S := fun _ => False) (Frm.of_below f) (fun _ _ e => e)

theorem Qu.nil (w : World) : Qu w none 0 0 [] := ⟨rfl, Nat.le_refl _, Nat.zero_le _, .inl ⟨rfl, rfl⟩⟩

theorem Qu.fresh (w : World) : Qu (w.alloc (.cells #[] 3)) (some ⟨w.heap.size, 0, none⟩) 0 0 [] :=
  ⟨rfl, Nat.le_refl _, Nat.zero_le _, .inr ⟨w.heap.size, 0, #[], rfl, Blk.new w _ _, Nat.le_refl _, fun i x hx => by simp at hx⟩⟩

theorem Qu.one (w : World) (x : Int) : Qu (w.alloc (.cells #[.int .i64 x] 3)) (some ⟨w.heap.size, 0, none⟩) 1 1 [x] :=
  ⟨rfl, Nat.le_refl _, by decide, .inr ⟨w.heap.size, 0, #[.int .i64 x], rfl, Blk.new w _ _, Nat.le_refl _, fun i y hy => by
    match i, hy with
    | 0, hy => simp at hy; subst hy; rfl⟩⟩

/-- Where it holds something, there is an address, and its numbers lie behind it. -/
theorem Qu.at_ (h : Qu w A n c xs) (hn : 0 < n) : ∃ g off, A = some ⟨g, off, none⟩ ∧ g < w.heap.size ∧ (∀ i x, xs[i]? = some x → w.cell? ⟨g, off + i, none⟩ = some (.int .i64 x)) ∧ (∀ i, w.frozen? ⟨g, i, none⟩ = false) := by
  rcases h.lies with ⟨_, hc⟩ | ⟨g, off, cs, rfl, hb, _, hx⟩
  · have := h.le; omega
  · exact ⟨g, off, rfl, hb.lt, fun i x hi => by rw [hb.cell]; exact hx i x hi, hb.frozen⟩

/-- Its front cut off: with room behind the first one, and without. -/
theorem Qu.tail {x : Int} {g off : Nat} (h : Qu w (some ⟨g, off, none⟩) (n + 1) c (x :: xs)) (hc : 1 < c) : Qu w (some ⟨g, off + 1, none⟩) n (c - 1) xs := by
  have hl : xs.length = n := by have := h.len; simpa using this
  refine ⟨hl, by have := h.le; omega, by have := h.max; omega, .inr ?_⟩
  rcases h.lies with ⟨e, _⟩ | ⟨g', off', cs, e, hb, hs, hx⟩
  · cases e
  · cases e
    exact ⟨g, off + 1, cs, rfl, hb, by omega, fun i y hy => by
      have := hx (i + 1) y (by simpa using hy)
      rwa [show off + (i + 1) = off + 1 + i by omega] at this⟩

theorem Qu.tail1 {x : Int} {g off : Nat} (h : Qu w (some ⟨g, off, none⟩) (n + 1) 1 (x :: xs)) : Qu w (some ⟨g, off, none⟩) 0 0 xs ∧ n = 0 := by
  have hl : xs.length = n := by have := h.len; simpa using this
  have hn : n = 0 := by have := h.le; omega
  subst hn
  refine ⟨⟨hl, Nat.le_refl _, Nat.zero_le _, .inr ?_⟩, rfl⟩
  rcases h.lies with ⟨e, _⟩ | ⟨g', off', cs, e, hb, hs, hx⟩
  · cases e
  · cases e
    exact ⟨g, off, cs, rfl, hb, by omega, fun i y hy => by rw [List.eq_nil_of_length_eq_zero hl] at hy; simp at hy⟩

theorem Qu.of_own {B : Nat} {v : Value} (hn : n ≠ 0) (h : w.ownsRow B 3 1 v n (ints xs)) : ∃ g cap, v = .slice (some ⟨g, 0, none⟩) n cap ∧ B ≤ g ∧ Qu w (some ⟨g, 0, none⟩) n cap xs := by
  obtain ⟨hl, hv⟩ := h
  rw [ints, List.length_map, Nat.mul_one] at hl
  rcases hv with ⟨_, e⟩ | ⟨g, cap, cur, e, hB, hg, hnc, hm, hs, ht⟩
  · exact absurd e hn
  · refine ⟨g, cap, e, hB, hl, hnc, hm, .inr ⟨g, 0, cur, rfl, hg, by omega, fun i x hx => ?_⟩⟩
    have hi : i < n := by have := (List.getElem?_eq_some_iff.1 hx).1; omega
    have e1 : (ints xs)[i]? = some (.int .i64 x) := by simp [ints, hx]
    rw [← ht, Nat.mul_one, List.getElem?_take_of_lt hi, Array.getElem?_toList] at e1
    rw [Nat.zero_add]
    exact e1
end

/-- What has turned: only the block that the slice lies in; the new slice lies there, too, or in a new block. -/
structure Grw (A A' : Option Addr) (w w' : World) : Prop where
  frm : Frm (fun k => blkOf A = some k) w w'
  at_ : ∀ k, blkOf A' = some k → blkOf A = some k ∨ w.heap.size ≤ k

theorem frm_none {S : Nat → Prop} {w w' : World} (h : w.grownBy w' none) : Frm S w w' := ⟨h.os, h.tape, h.output, h.size, fun k hk _ => h.block k hk (by simp)⟩

theorem below_none {w w' : World} (h : w.grownBy w' none) : Below w.heap.size w w' := ⟨h.os, h.tape, h.output, h.size, fun k hk => h.block k hk (by simp)⟩

/-- One more behind its last. -/
theorem Qu.append {w : World} {A : Option Addr} {n c : Nat} {xs : List Int} (h : Qu w A n c xs) (few : n ≤ 1048576) (x : Int) (ad : Addr) (k : Nat) (hc : w.cell? ad = some (.int .i64 x)) (ty : TypeId) :
    ∃ A' c' w', (Builtin.append_ #[36, 36] ty #[.slice A n c, .slice (some ad) 1 k]).run Try.prog w = .ok (.slice A' (n + 1) c') w' ∧ Qu w' A' (n + 1) c' (xs ++ [x]) ∧ Grw A A' w w' := by
  obtain ⟨i0, hi, hz, hs, hby⟩ := info_parts info_int
  have hl1 : [Value.int .i64 x].length = 1 * 1 := rfl
  have hnews : ∀ j u, [Value.int .i64 x][j]? = some u → w.cell? (ad.add j) = some u := by
    intro j u hj
    match j, hj with
    | 0, hj => simp at hj; subst hj; simpa [Addr.add] using hc
  have hone : ∀ u ∈ [Value.int .i64 x], u.oneCell' = true := by intro u hu; simp at hu; subst hu; rfl
  have hlx : (ints xs).length = n * 1 := by rw [ints, List.length_map, h.len]; omega
  have ea : ints xs ++ [.int .i64 x] = ints (xs ++ [x]) := by simp [ints]
  rcases h.lies with ⟨rfl, rfl⟩ | ⟨g, off, cs, rfl, hb, hsz, hx⟩
  · have hn : n = 0 := by have := h.le; omega
    subst hn
    obtain rfl : xs = [] := List.eq_nil_of_length_eq_zero h.len
    obtain ⟨v', w', hrun, r1, r2, _⟩ := run_append_own (P := Try.prog) w w.heap.size 36 ty 3 i0 (.int .i64 0) 1 8 Try.underlying36 hi hz hs hby rfl (by decide) (.slice none 0 0) 0 [] (World.ownsRow_nil w _ 3 1) ad 1 k [.int .i64 x] rfl hnews hone (by decide) (by decide) (Nat.le_refl _)
    obtain ⟨g', cap, rfl, hB, q⟩ := Qu.of_own (xs := [x]) (by omega) r1
    exact ⟨_, _, w', hrun, q, frm_none r2, fun k hk => by cases hk; exact .inr hB⟩
  · by_cases hr : n + 1 ≤ c
    · have hlt : off + n < cs.size := by omega
      have hrun := run_append_room_cells (P := Try.prog) w 36 ty 3 i0 Try.underlying36 hi g off n c ad 1 k [.int .i64 x] (by rw [hs]; rfl) hnews hone hr
        (fun j hj => by
          obtain rfl : j = 0 := by simpa using hj
          rw [hs, hb.cell]; simp [hlt]) (fun j hj => hb.frozen _)
      rw [hs, Nat.mul_one] at hrun
      refine ⟨_, _, _, hrun, ⟨by rw [List.length_append, h.len]; rfl, hr, h.max, .inr ⟨g, off, _, rfl, hb.set_ (off + n) (.int .i64 x), by simpa using hsz, fun i y hy => ?_⟩⟩, (show Frm (fun k => blkOf (some ⟨g, off, none⟩) = some k) w (w.setCell ⟨g, off + n, none⟩ (.int .i64 x)) from Frm.setCell (S := fun k => blkOf (some ⟨g, off, none⟩) = some k) (Frm.refl _ _) (p := ⟨g, off + n, none⟩) (fun _ => rfl) _), fun k hk => .inl hk⟩
      rw [Array.getElem?_setIfInBounds]
      by_cases hin : i < n
      · rw [List.getElem?_append_left (by rw [h.len]; exact hin)] at hy
        rw [if_neg (by omega)]
        exact hx i y hy
      · rw [List.getElem?_append_right (by rw [h.len]; omega), h.len] at hy
        have e0 : i - n = 0 := by have := (List.getElem?_eq_some_iff.1 hy).1; simp at this; omega
        rw [e0] at hy
        simp at hy
        subst hy
        rw [if_pos (by omega), if_pos (by omega)]
    · obtain ⟨v', w', hrun, r1, r2⟩ := run_append_arg_grows (P := Try.prog) w 36 ty 3 i0 (.int .i64 0) 1 8 Try.underlying36 hi hz hs hby rfl (by decide) ⟨g, off, none⟩ n c (ints xs) hlx
        (fun j u hj => by
          rw [Addr.add_lit, hb.cell]
          rw [ints, List.getElem?_map] at hj
          cases e : xs[j]? with
          | none => rw [e] at hj; cases hj
          | some y => rw [e] at hj; cases hj; exact hx j y e)
        ad 1 k [.int .i64 x] rfl hnews (by omega) (by unfold maxLen; omega) (by omega)
      rw [ea] at r1
      obtain ⟨g', cap, rfl, hB, q⟩ := Qu.of_own (by omega) r1
      exact ⟨_, _, w', hrun, q, frm_none r2, fun k hk => by cases hk; exact .inr hB⟩

/-- All of it appended to its front, cut off with its room: a copy. -/
theorem Qu.copy {w : World} {A : Option Addr} {n c : Nat} {xs : List Int} (h : Qu w A n c xs) (few : n ≤ 1048576) (ty : TypeId) :
    ∃ A' c' w', (Builtin.append_ #[36, 36] ty #[.slice A 0 0, .slice A n c]).run Try.prog w = .ok (.slice A' n c') w' ∧ Qu w' A' n c' xs ∧ Below w.heap.size w w' ∧ (0 < n → ∀ k, blkOf A' = some k → w.heap.size ≤ k) := by
  obtain ⟨i0, hi, hz, hs, hby⟩ := info_parts info_int
  by_cases hn : n = 0
  · subst hn
    have hx0 : xs = [] := List.eq_nil_of_length_eq_zero h.len
    subst hx0
    refine ⟨A, 0, w, ?_, ⟨rfl, Nat.le_refl _, Nat.zero_le _, ?_⟩, Below.refl _ _, fun h0 => absurd h0 (by omega)⟩
    · cases A <;> simp [Builtin.append_, run_underlying Try.underlying36, sizeOf, typeInfo, hi, Builtin.lenOf, Builtin.firstCells, storeCells, loadCells, loadCellsFrom]
    · rcases h.lies with ⟨rfl, rfl⟩ | ⟨g, off, cs, rfl, hb, hsz, hx⟩
      · exact .inl ⟨rfl, rfl⟩
      · exact .inr ⟨g, off, cs, rfl, hb, by omega, hx⟩
  · rcases h.lies with ⟨rfl, rfl⟩ | ⟨g, off, cs, rfl, hb, hsz, hx⟩
    · exact absurd h.le (by omega)
    · have hnews : ∀ j u, (ints xs)[j]? = some u → w.cell? ((⟨g, off, none⟩ : Addr).add j) = some u := by
        intro j u hj
        rw [Addr.add_lit, hb.cell]
        rw [ints, List.getElem?_map] at hj
        cases e : xs[j]? with
        | none => rw [e] at hj; cases hj
        | some y => rw [e] at hj; cases hj; exact hx j y e
      obtain ⟨v', w', hrun, r1, r2⟩ := run_append_arg_grows (P := Try.prog) w 36 ty 3 i0 (.int .i64 0) 1 8 Try.underlying36 hi hz hs hby rfl (by decide) ⟨g, off, none⟩ 0 0 [] rfl
        (fun j u hj => by simp at hj) ⟨g, off, none⟩ n c (ints xs) (by rw [ints, List.length_map, h.len]; omega) hnews (by omega) (by unfold maxLen; omega) (by omega)
      rw [Nat.zero_add, List.nil_append] at r1
      obtain ⟨g', cap, rfl, hB, q⟩ := Qu.of_own hn r1
      exact ⟨_, _, w', hrun, q, below_none r2, fun _ k hk => by cases hk; exact hB⟩

/-- .. at the operation, for the walk. -/
theorem wpList_append_qu (w : World) {ops : Array Oper} {rest : List Oper} {o : Oper} {a : Act} {Q : Exit → Act → World → Prop} (hgd : o.guard = none) (s x : Operand)
    (ho : o.op = .call { callee := .builtin .append, args := #[s, x], argTypes := #[36, 36] }) {A : Option Addr} {n c : Nat} {xs : List Int} (h : Qu w A n c xs) (few : n ≤ 1048576) (y : Int) (ad : Addr) (k : Nat)
    (hs : a.eval s = .slice A n c) (hx : a.eval x = .slice (some ad) 1 k) (hc : w.cell? ad = some (.int .i64 y))
    (hK : ∀ A' c' w', Qu w' A' (n + 1) c' (xs ++ [y]) → Grw A A' w w' → wpList Try.prog ops Q rest (a.put o.dst (.slice A' (n + 1) c')) w') : wpList Try.prog ops Q (o :: rest) a w := by
  refine wpList_plain hgd fun K hK' => ?_
  obtain ⟨A', c', w', hrun, q, g⟩ := h.append few y ad k hc o.type
  unfold Oper.wp execOp
  simp only [ho, resolve, invoke, builtin, Sem.run_bind, Sem.run_pure, Result.andThen_ok, List.map_toArray, List.map_cons, List.map_nil, hs, hx, hrun]
  exact hK' _ _ (hK A' c' w' q g)

theorem wpList_copy_qu (w : World) {ops : Array Oper} {rest : List Oper} {o : Oper} {a : Act} {Q : Exit → Act → World → Prop} (hgd : o.guard = none) (s x : Operand)
    (ho : o.op = .call { callee := .builtin .append, args := #[s, x], argTypes := #[36, 36] }) {A : Option Addr} {n c : Nat} {xs : List Int} (h : Qu w A n c xs) (few : n ≤ 1048576)
    (hs : a.eval s = .slice A 0 0) (hx : a.eval x = .slice A n c)
    (hK : ∀ A' c' w', Qu w' A' n c' xs → Below w.heap.size w w' → (0 < n → ∀ k, blkOf A' = some k → w.heap.size ≤ k) → wpList Try.prog ops Q rest (a.put o.dst (.slice A' n c')) w') : wpList Try.prog ops Q (o :: rest) a w := by
  refine wpList_plain hgd fun K hK' => ?_
  obtain ⟨A', c', w', hrun, q, g, hf⟩ := h.copy few o.type
  unfold Oper.wp execOp
  simp only [ho, resolve, invoke, builtin, Sem.run_bind, Sem.run_pure, Result.andThen_ok, List.map_toArray, List.map_cons, List.map_nil, hs, hx, hrun]
  exact hK' _ _ (hK A' c' w' q g hf)
end Go.Proofs.Ytjjjeeffllelaaa

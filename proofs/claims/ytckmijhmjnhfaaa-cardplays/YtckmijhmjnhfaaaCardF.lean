/- What CardPlays has at hand: marks, flags of its own, an act. -/
import Derived.Test.YtckmijhmjnhfaaaCardD
import Derived.Test.YtckmijhmjnhfaaaNums
import Derived.Test.YtckmijhmjnhfaaaPagesN
import Derived.Deep.DeepCutAuto
import Derived.Deep.CutBlock
namespace Go.Proofs.Ytckmijhmjnhfaaa
open Go.RowKit

theorem pages_marks {W C : Int} (w0 : 0 ≤ W) (c0 : 1 ≤ C) : pagesI C W = (W + C - 1) / C := by
  unfold pagesI
  by_cases h : W < 1
  · obtain rfl : W = 0 := by omega
    rw [if_pos (Or.inr h)]
    exact (Int.ediv_eq_zero_of_lt (by omega) (by omega)).symm
  · rw [if_neg (by omega), show W + C - 1 = (W - 1) + C by omega, Int.add_ediv_of_dvd_right (Int.dvd_refl C), Int.ediv_self (by omega)]

/-- Few marks, as the law asks. -/
theorem few_marks {W C : Int} (c0 : 1 ≤ C) (h : ¬ 2000 < W / C) : (W + C - 1) / C ≤ 2001 := by
  have e := Int.mul_ediv_add_emod W C
  have m1 := Int.emod_lt_of_pos W (show 0 < C by omega)
  have hq : C * (W / C) ≤ C * 2000 := Int.mul_le_mul_of_nonneg_left (by omega) (by omega)
  have : (W + C - 1) / C < 2002 := Int.ediv_lt_of_lt_mul (by omega) (by omega)
  omega

/-- Marks, and flags of the law's own, both made since w0. -/
structure Dbl (w0 w : World) (b mb lb : Nat) (F W C : Int) (ms ks : List Bool) : Prop where
  ses : Ses w0 w b mb F W C ms
  row : Blk w lb (ks.map Value.bool).toArray 4
  ne : lb ≠ mb
  ne2 : lb ≠ b
  ge : w0.heap.size ≤ lb

/-- And an act in a box. -/
structure Tri (w0 w : World) (b mb lb ab : Nat) (F W C x0 x1 : Int) (ms ks : List Bool) : Prop where
  dbl : Dbl w0 w b mb lb F W C ms ks
  box : Blk w ab #[.int .i64 x0, .int .i64 x1] 30
  ne : ab ≠ mb
  ne2 : ab ≠ lb

section
variable {w0 w w' : World} {b mb lb ab : Nat} {F W C x0 x1 : Int} {ms ks ns : List Bool}
theorem Dbl.keep (h : Dbl w0 w b mb lb F W C ms ks) (k : Below w.heap.size w w') : Dbl w0 w' b mb lb F W C ms ks := ⟨h.ses.keep k, h.row.keep k, h.ne, h.ne2, h.ge⟩
theorem Dbl.step (h : Dbl w0 w b mb lb F W C ms ks) (k : Tn b mb F W C ns w w') : Dbl w0 w' b mb lb F W C ns ks := ⟨h.ses.step k, h.row.frm k.frm h.ne, h.ne, h.ne2, h.ge⟩
theorem Dbl.set (h : Dbl w0 w b mb lb F W C ms ks) (i : Nat) (x : Bool) : Dbl w0 (w.setCell ⟨lb, i, none⟩ (.bool x)) b mb lb F W C ms (ks.set i x) :=
  ⟨⟨h.ses.is.far (p := ⟨lb, i, none⟩) (Ne.symm h.ne2) (Ne.symm h.ne) _, h.ses.old.setCell (p := ⟨lb, i, none⟩) h.ge _, h.ses.ge⟩, h.row.setBool i x, h.ne, h.ne2, h.ge⟩
theorem Dbl.act (h : Dbl w0 w b mb lb F W C ms ks) : Tri w0 (w.alloc (.cells #[.int .i64 x0, .int .i64 x1] 30)) b mb lb w.heap.size F W C x0 x1 ms ks :=
  ⟨h.keep ((Below.refl _ _).alloc (Nat.le_refl _) _), Blk.new _ _ _, by have := h.ses.is.lt2; omega, by have := h.row.lt; omega⟩
theorem Tri.keep (h : Tri w0 w b mb lb ab F W C x0 x1 ms ks) (k : Below w.heap.size w w') : Tri w0 w' b mb lb ab F W C x0 x1 ms ks := ⟨h.dbl.keep k, h.box.keep k, h.ne, h.ne2⟩
theorem Tri.step (h : Tri w0 w b mb lb ab F W C x0 x1 ms ks) (k : Tn b mb F W C ns w w') : Tri w0 w' b mb lb ab F W C x0 x1 ns ks := ⟨h.dbl.step k, h.box.frm k.frm h.ne, h.ne, h.ne2⟩
theorem Tri.set (h : Tri w0 w b mb lb ab F W C x0 x1 ms ks) (i : Nat) (x : Bool) : Tri w0 (w.setCell ⟨lb, i, none⟩ (.bool x)) b mb lb ab F W C x0 x1 ms (ks.set i x) := ⟨h.dbl.set i x, h.box.far h.ne2 _, h.ne, h.ne2⟩
theorem Tri.is (h : Tri w0 w b mb lb ab F W C x0 x1 ms ks) : IsTb w b mb F W C ms := h.dbl.ses.is
theorem Tri.two (h : Tri w0 w b mb lb ab F W C x0 x1 ms ks) : w.cell? ⟨ab, 0, none⟩ = some (.int .i64 x0) ∧ w.cell? ⟨ab, 1, none⟩ = some (.int .i64 x1) := ⟨h.box.cell 0, h.box.cell 1⟩
theorem Tri.flag (h : Tri w0 w b mb lb ab F W C x0 x1 ms ks) {i : Nat} {x : Bool} (hx : ks[i]? = some x) : w.cell? ⟨lb, i, none⟩ = some (.bool x) ∧ ∀ j, w.frozen? ⟨lb, j, none⟩ = false := ⟨h.dbl.row.bools hx, h.dbl.row.frozen⟩
end

theorem take_at {ms : List Bool} {k i : Nat} : (ms.take k)[i]? = if i < k then ms[i]? else none := List.getElem?_take

/-- One more mark is looked at: it is not the first one from n on. -/
theorem FirstA.stay {ms : List Bool} {k : Nat} {n r : Int} {ok x : Bool} (h : FirstA (ms.take k) n r ok) (hx : ms[k]? = some x) (hs : x = false ∨ (k : Int) < n ∨ ok = true) : FirstA (ms.take (k + 1)) n r ok := by
  rcases h with ⟨j, rfl, rfl, h1, h2, h3⟩ | ⟨rfl, rfl, h1⟩
  · have jk : j < k := by
      rw [take_at] at h2
      split at h2
      · assumption
      · cases h2
    refine Or.inl ⟨j, rfl, rfl, h1, ?_, fun i a c => ?_⟩
    · rw [take_at, if_pos jk] at h2
      rw [take_at, if_pos (by omega)]; exact h2
    · have := h3 i a c
      rw [take_at, if_pos (by omega)] at this
      rw [take_at, if_pos (by omega)]; exact this
  · refine Or.inr ⟨rfl, rfl, fun i a c => ?_⟩
    by_cases e : i = k
    · subst e
      rw [take_at, if_pos (by omega), hx] at c
      rcases hs with rfl | hs | hs
      · cases c
      · omega
      · cases hs
    · have := h1 i a
      rw [take_at] at c this
      by_cases e2 : i < k
      · rw [if_pos e2] at this
        rw [if_pos (by omega)] at c
        exact this c
      · rw [if_neg (by omega)] at c; cases c

/-- It is. -/
theorem FirstA.hit {ms : List Bool} {k : Nat} {n r : Int} (h : FirstA (ms.take k) n r false) (hx : ms[k]? = some true) (hk : n ≤ k) : FirstA (ms.take (k + 1)) n k true := by
  rcases h with ⟨j, _, h, _⟩ | ⟨_, _, h1⟩
  · cases h
  · have kl := (List.getElem?_eq_some_iff.1 hx).1
    refine Or.inl ⟨k, rfl, rfl, hk, by rw [take_at, if_pos (by omega)]; exact hx, fun i a c => ?_⟩
    have := h1 i a
    rw [take_at, if_pos c, List.getElem?_eq_getElem (by omega)] at this
    rw [take_at, if_pos (by omega), List.getElem?_eq_getElem (by omega)]
    cases e : ms[i]
    · rfl
    · rw [e] at this; exact absurd rfl this

theorem first_none (ms : List Bool) (n : Int) : FirstA (ms.take 0) n 0 false := Or.inr ⟨rfl, rfl, fun i _ => by simp⟩

theorem set_same {ms : List Bool} {j : Nat} {x : Bool} (h : ms[j]? = some x) : ms.set j x = ms := by
  apply List.ext_getElem?
  intro i
  by_cases e : j = i
  · subst e; rw [List.getElem?_set_self (List.getElem?_eq_some_iff.1 h).1, h]
  · rw [List.getElem?_set_ne e]
end Go.Proofs.Ytckmijhmjnhfaaa

/- A table made since some world, with blocks beside it that it leaves. -/
import Derived.Test.YtddgbhdfbkkfjaaTbA
import Derived.Test.YtddgbhdfbkkfjaaKpQ
import Derived.Test.YtddgbhdfbkkfjaaLists
namespace Go.Proofs.Ytddgbhdfbkkfjaa
open Go.RowKit

/-- Block b is a table made since w0; no block of Z is its own; what there was is as it was. -/
structure Hz (w0 w : World) (Z : Nat → Prop) (b : Nat) (xs : List Int) : Prop where
  is : ∃ g, IsHt w b g xs ∧ ∀ k, (k = b ∨ k = g) → w0.heap.size ≤ k ∧ ¬ Z k
  bel : Below w0.heap.size w0 w
  low : ∀ k, Z k → w0.heap.size ≤ k ∧ k < w.heap.size

section
variable {w0 w w' : World} {Z Z' : Nat → Prop} {b : Nat} {xs : List Int} {x : Int}

theorem Hz.few (h : Hz w0 w Z b xs) : xs.length ≤ 64 := by
  obtain ⟨g, hp, _⟩ := h.is
  exact hp.few

theorem Hz.keep (h : Hz w0 w Z b xs) (f : Below w.heap.size w w') : Hz w0 w' Z b xs := by
  obtain ⟨g, hp, ho⟩ := h.is
  exact ⟨⟨g, hp.keep f, ho⟩, below_trans h.bel f, fun k hk => ⟨(h.low k hk).1, Nat.lt_of_lt_of_le (h.low k hk).2 f.size⟩⟩

/-- What is beside it has been written to; new blocks may be beside it. -/
theorem Hz.write {S : Nat → Prop} (h : Hz w0 w Z b xs) (f : Frm S w w') (hs : ∀ k, k < w.heap.size → S k → Z k) (hz : ∀ k, Z' k → Z k ∨ (w.heap.size ≤ k ∧ k < w'.heap.size)) : Hz w0 w' Z' b xs := by
  obtain ⟨g, hp, ho⟩ := h.is
  refine ⟨⟨g, hp.frm f (fun e => (ho b (.inl rfl)).2 (hs b hp.blk.lt e)) (fun e => (ho g (.inr rfl)).2 (hs g hp.row.lt e)), fun k hk => ⟨(ho k hk).1, fun e => ?_⟩⟩, Below.frm h.bel f h.bel.size (fun k hk e => ?_), fun k hk => ?_⟩
  · rcases hz k e with e | e
    · exact (ho k hk).2 e
    · have := hp.blk.lt; have := hp.row.lt; omega
  · have := (h.low k (hs k (Nat.lt_of_lt_of_le hk h.bel.size) e)).1; omega
  · rcases hz k hk with e | e
    · exact ⟨(h.low k e).1, Nat.lt_of_lt_of_le (h.low k e).2 f.size⟩
    · exact ⟨Nat.le_trans h.bel.size e.1, e.2⟩

/-- New blocks are beside it. -/
theorem Hz.grow (h : Hz w0 w Z b xs) (f : Below w.heap.size w w') (hz : ∀ k, Z' k → Z k ∨ (w.heap.size ≤ k ∧ k < w'.heap.size)) : Hz w0 w' Z' b xs :=
  h.write (S := fun _ => False) (Frm.of_below f) (fun _ _ e => e.elim) hz

theorem hz_new (n : Int) (bel : Below w0.heap.size w0 w) (low : ∀ k, Z k → w0.heap.size ≤ k ∧ k < w.heap.size) :
    Calls Try.prog 6 #[.int .i64 n] w fun e w' => ∃ b, e = .returned (tbP b) ∧ Hz w0 w' Z b (zeros (cutI n 0 64)) ∧ Kp Z w w' :=
  (tbNew_any n w).mono fun _ _ ⟨he, hb, bb⟩ => ⟨_, he, ⟨⟨_, hb, fun k e => by
    have := bel.size
    refine ⟨by omega, fun z => by have := (low _ z).2; omega⟩⟩, below_trans bel bb, fun k hk => ⟨(low k hk).1, Nat.lt_of_lt_of_le (low k hk).2 bb.size⟩⟩, Kp.of_below bb⟩

theorem hz_get_yes (h : Hz w0 w Z b xs) (j : Nat) (hx : xs[j]? = some x) :
    Calls Try.prog 8 #[tbP b, .int .i64 j] w fun e w' => e = .returned (.tuple #[.int .i64 x, .int .i64 0]) ∧ w = w' := by
  obtain ⟨g, hp, ho⟩ := h.is
  exact tbGet_yes b g xs x w hp j hx

theorem hz_get_no (h : Hz w0 w Z b xs) (hn : x < 0 ∨ (xs.length : Int) ≤ x) :
    Calls Try.prog 8 #[tbP b, .int .i64 x] w fun e w' => e = .returned (.tuple #[.int .i64 0, .int .i64 3]) ∧ w = w' := by
  obtain ⟨g, hp, ho⟩ := h.is
  exact tbGet_no b g xs x w hp hn

theorem hz_set_yes (h : Hz w0 w Z b xs) (j : Nat) (hj : j < xs.length) (x : Int) :
    Calls Try.prog 9 #[tbP b, .int .i64 j, .int .i64 x] w fun e w' => e = .returned (.int .i64 0) ∧ Hz w0 w' Z b (xs.set j x) ∧ Kp Z w w' := by
  obtain ⟨g, hp, ho⟩ := h.is
  exact (tbSet_yes b g xs x w hp j hj).mono fun _ _ ⟨he, h', f⟩ => ⟨he, ⟨⟨g, h', ho⟩, Below.frm h.bel f h.bel.size (fun k hk e => by have := (ho k (.inr e)).1; omega), fun k hk => ⟨(h.low k hk).1, Nat.lt_of_lt_of_le (h.low k hk).2 f.size⟩⟩,
    f.mono fun i _ e => (ho i (.inr e)).2⟩

theorem hz_set_no (h : Hz w0 w Z b xs) (hn : x < 0 ∨ (xs.length : Int) ≤ x) (y : Int) :
    Calls Try.prog 9 #[tbP b, .int .i64 x, .int .i64 y] w fun e w' => e = .returned (.int .i64 3) ∧ w = w' := by
  obtain ⟨g, hp, ho⟩ := h.is
  exact tbSet_no b g xs x w y hp hn

theorem hz_all (h : Hz w0 w Z b xs) {n : Nat} (hn : xs.length = n) :
    Calls Try.prog 11 #[tbP b] w fun e w' => ∃ A' c', e = .returned (.slice A' n c') ∧ Qu w' A' n c' xs ∧ Below w.heap.size w w' ∧ ∀ k, blkOf A' = some k → w.heap.size ≤ k := by
  subst hn
  obtain ⟨g, hp, ho⟩ := h.is
  exact tbAll_any b g xs w hp
end
end Go.Proofs.Ytddgbhdfbkkfjaa

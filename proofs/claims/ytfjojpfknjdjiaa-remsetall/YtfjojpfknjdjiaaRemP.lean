/- What is taken in and told of a set with counts beside it: lists alone. -/
import Derived.Test.YtfjojpfknjdjiaaRemF
import Derived.Test.YtfjojpfknjdjiaaMapN
namespace Go.Proofs.Ytfjojpfknjdjiaa
open Go.RowKit

/-- What was taken in is in the buffer, or its card is marked; no place is in the buffer more often than it was taken in. -/
def TakenA (ys : List Int) (ns : List Bool) (f : Nat → Nat) : Prop :=
  (∀ y : Nat, ys.count (y : Int) ≤ f y) ∧ (∀ y : Nat, 0 < f y → (y : Int) ∈ ys ∨ ns[(((y : Int) - 50) / 32).toNat]? = some true)

theorem TakenA.none (ns : List Bool) : TakenA [] ns (fun _ => 0) := ⟨fun _ => by simp, fun y h => absurd h (Nat.lt_irrefl 0)⟩

theorem TakenA.add {M : Int} {ys ys' : List Int} {ns ns' : List Bool} {f : Nat → Nat} {c : Nat} (h : TakenA ys ns f) (a : AddA M 50 32 c ys ns ys' ns') (hl : (((c : Int) - 50) / 32).toNat < ns.length) : TakenA ys' ns' (bump f c) := by
  obtain ⟨h1, h2⟩ := h
  rcases a with ⟨_, rfl, rfl⟩ | ⟨_, rfl, rfl⟩
  · refine ⟨fun y => ?_, fun y hy => ?_⟩
    · rw [List.count_append, List.count_singleton]
      have := h1 y
      unfold bump
      by_cases e : y = c
      · subst e; simp; omega
      · have : ¬ (c : Int) = (y : Int) := by omega
        simp [e, this]; omega
    · by_cases e : y = c
      · subst e; exact .inl (by simp)
      · unfold bump at hy
        rw [if_neg e] at hy
        exact (h2 y hy).imp (fun k => List.mem_append_left _ k) id
  · refine ⟨fun y => ?_, fun y hy => ?_⟩
    · have := h1 y
      unfold bump
      split <;> omega
    · by_cases e : y = c
      · subst e; exact .inr (by rw [List.getElem?_set_self hl])
      · unfold bump at hy
        rw [if_neg e] at hy
        refine (h2 y hy).imp id fun k => ?_
        by_cases e2 : (((c : Int) - 50) / 32).toNat = (((y : Int) - 50) / 32).toNat
        · rw [e2, List.getElem?_set_self (by rw [← e2]; exact hl)]
        · rw [List.getElem?_set_ne e2]; exact k

/-- What was taken in is told already, or is to be told; while there is something in the buffer, no place was told more often than it was taken in, and none will be. -/
def ToldA (xs : List Int) (ms : List Bool) (f g : Nat → Nat) : Prop :=
  (xs = [] ∨ ∀ y : Nat, g y + xs.count (y : Int) ≤ f y) ∧ (∀ y : Nat, 50 ≤ y → y < 1050 → 0 < f y → 0 < g y ∨ (y : Int) ∈ xs ∨ ms[(((y : Int) - 50) / 32).toNat]? = some true)

theorem ToldA.first {ys : List Int} {ns : List Bool} {f : Nat → Nat} (h : TakenA ys ns f) : ToldA ys ns f (fun _ => 0) :=
  ⟨.inr fun y => by have := h.1 y; show 0 + _ ≤ _; omega, fun y _ _ hy => .inr (h.2 y hy)⟩

/-- From p on, up to y, each once more. -/
def span (g : Nat → Nat) (p y : Nat) (k : Nat) : Nat := if p ≤ k ∧ k < y then g k + 1 else g k

theorem span_none (g : Nat → Nat) (p : Nat) : span g p p = g := by funext k; unfold span; rw [if_neg (by omega)]
theorem span_next {g : Nat → Nat} {p y : Nat} (h : p ≤ y) : bump (span g p y) y = span g p (y + 1) := by
  funext k
  unfold bump span
  by_cases e : k = y
  · subst e; rw [if_pos rfl, if_neg (by omega), if_pos (by omega)]
  · rw [if_neg e]
    by_cases a : p ≤ k ∧ k < y
    · rw [if_pos a, if_pos (by omega)]
    · rw [if_neg a, if_neg (by omega)]
theorem span_pos {g : Nat → Nat} {k : Nat} (h : 0 < g k) (p y : Nat) : 0 < span g p y k := by unfold span; split <;> omega
theorem span_at (g : Nat → Nat) (p y : Nat) : span g p y y = g y := by unfold span; rw [if_neg (by omega)]

theorem ToldA.next {xs xs' : List Int} {ms ms' : List Bool} {f g : Nat → Nat} {a b : Int} {part : Bool} (h : ToldA xs ms f g) (n : NextA 50 1000 32 xs ms a b part xs' ms') (hx : ∀ x ∈ xs, (50 : Int) ≤ x ∧ x < 50 + 1000) (hl : ms.length = 32) :
    ∃ p q : Nat, a = p ∧ b = q ∧ 50 ≤ p ∧ p < q ∧ q ≤ 1050 ∧ q ≤ p + 32 ∧ (part = false → q = p + 1 ∧ g p + 1 ≤ f p) ∧ ToldA xs' ms' f (span g p q) := by
  obtain ⟨h1, h2⟩ := h
  rcases n with ⟨x, rfl, rfl, rfl, rfl, rfl⟩ | ⟨j, rfl, rfl, hj, _, rfl, rfl, rfl, rfl⟩
  · have hx := hx a List.mem_cons_self
    obtain ⟨p, rfl⟩ : ∃ p : Nat, a = p := ⟨a.toNat, by omega⟩
    have h1 : ∀ y : Nat, g y + ((p : Int) :: xs').count (y : Int) ≤ f y := h1.resolve_left (by simp)
    refine ⟨p, p + 1, rfl, by push_cast; rfl, by omega, by omega, by omega, by omega, fun _ => ⟨rfl, ?_⟩, .inr fun y => ?_, fun y y0 y1 hy => ?_⟩
    · have := h1 p
      rw [List.count_cons_self] at this
      omega
    · have := h1 y
      unfold span
      by_cases e : y = p
      · subst e
        rw [List.count_cons_self] at this
        rw [if_pos (by omega)]
        omega
      · rw [List.count_cons_of_ne (by omega)] at this
        rw [if_neg (by omega)]
        exact this
    · rcases h2 y y0 y1 hy with k | k | k
      · exact .inl (span_pos k _ _)
      · rcases List.mem_cons.1 k with e | e
        · exact .inl (by unfold span; rw [if_pos (by omega)]; omega)
        · exact .inr (.inl e)
      · exact .inr (.inr k)
  · have hj32 : j < 32 := by have := (List.getElem?_eq_some_iff.1 hj).1; omega
    have he : endI 50 1000 32 (j : Int) = ((if 50 + j * 32 + 32 > 1050 then 1050 else 50 + j * 32 + 32 : Nat) : Int) := by unfold endI; split <;> split <;> omega
    refine ⟨50 + j * 32, if 50 + j * 32 + 32 > 1050 then 1050 else 50 + j * 32 + 32, by push_cast; rfl, he, by omega, by split <;> omega, by split <;> omega, by split <;> omega, (fun e => by cases e), .inl rfl, fun y y0 y1 hy => ?_⟩
    rcases h2 y y0 y1 hy with k | k | k
    · exact .inl (span_pos k _ _)
    · cases k
    · by_cases e : (((y : Int) - 50) / 32).toNat = j
      · refine .inl ?_
        unfold span
        rw [if_pos ?_]
        · omega
        · split <;> omega
      · exact .inr (.inr (by rw [List.getElem?_set_ne (fun z => e z.symm)]; exact k))

theorem ToldA.done {xs : List Int} {ms : List Bool} {f g : Nat → Nat} (h : ToldA xs ms f g) (h0 : xs.length + ms.count true = 0) {y : Nat} (y0 : 50 ≤ y) (y1 : y < 1050) (hy : 0 < f y) : 0 < g y := by
  obtain rfl : xs = [] := List.eq_nil_of_length_eq_zero (by omega)
  rcases h.2 y y0 y1 hy with k | k | k
  · exact k
  · cases k
  · have := List.count_pos_iff.2 (List.mem_of_getElem? k)
    omega
end Go.Proofs.Ytfjojpfknjdjiaa

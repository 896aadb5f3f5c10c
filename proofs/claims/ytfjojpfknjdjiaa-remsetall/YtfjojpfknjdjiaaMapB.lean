/- A set of numbers told as a map; of no program's own functions. -/
import Derived.Test.YtfjojpfknjdjiaaFlags
import Derived.Maps.OwnSet
namespace Go.Proofs.Ytfjojpfknjdjiaa
open Go.RowKit Go.Maps

abbrev KI (c : Nat) : Lit := .int .i64 (c : Int)

theorem lawI : Keyed Try.prog 3 := int_keyed Try.underlying3
theorem zeroB (w : World) : (zeroValue 4).run Try.prog w = .ok (.bool false) w := by kernel_rfl
theorem keyI (c : Nat) (h : c ≤ 1048576) : keyOf Try.prog 3 (.int .i64 (c : Int)) = some (KI c) := keyOf_int_mk Try.underlying3 (WalkArith.wf_i64 (by omega))

theorem KI_ne {a b : Nat} (h : a ≠ b) : KI a ≠ KI b := fun e => by injection e with _ e; omega

/-- A look-up among flags. -/
theorem look_bool {w : World} {B n : Nat} {D : DataW Unit} (h : w.ownsMap Try.prog 3 (plainElem Try.prog 4) B n D) {c : Nat} (hc : c ≤ 1048576) {x : Bool} (hx : D.atKey (KI c) (.lit (.bool false)) = .lit (.bool x)) :
    (Instr.lookup 43 (.map (some B)) (.int .i64 (c : Int)) false).run Try.prog w = .ok (.bool x) w := by
  obtain ⟨v, ps, hrun, hv⟩ := h.lookup lawI Try.underlying43 (zeroB w) (plainElem_bool Try.underlying4 false) (keyI c hc)
  rw [hx] at hv
  have : v = .bool x := by
    unfold plainElem at hv
    rw [Try.underlying4] at hv
    cases v <;> simp at hv
    rw [hv.1]
  rw [← this]
  exact hrun

/-- The map holds just the numbers of the marks that are set. -/
structure Told (D : DataW Unit) (ms : List Bool) : Prop where
  has_ : ∀ c, has D (KI c) = ms.getD c false
  at_ : ∀ c, ms[c]? = some true → D.atKey (KI c) (.lit (.bool false)) = .lit (.bool true)
  size_ : size D = ms.count true

theorem count_set_true {ms : List Bool} {j : Nat} (h : j < ms.length) : (ms.set j true).count true = if ms.getD j false then ms.count true else ms.count true + 1 := by
  rw [List.count_set h, List.getD_eq_getElem?_getD, List.getElem?_eq_getElem h]
  cases e : ms[j]
  · simp
  · have : 0 < ms.count true := List.count_pos_iff.2 (e ▸ List.getElem_mem h)
    simp
    omega

theorem count_set_false {ms : List Bool} {j : Nat} (h : ms[j]? = some true) : (ms.set j false).count true + 1 = ms.count true := by
  obtain ⟨hl, e⟩ := List.getElem?_eq_some_iff.1 h
  have : 0 < ms.count true := List.count_pos_iff.2 (e ▸ List.getElem_mem hl)
  rw [List.count_set hl, e]
  simp
  omega

theorem Told.none (len : Nat) : Told (.map []) (List.replicate len false) := by
  refine ⟨fun c => ?_, fun c hc => ?_, ?_⟩
  · rw [List.getD_eq_getElem?_getD, List.getElem?_replicate]
    split <;> rfl
  · rw [List.getElem?_replicate] at hc
    split at hc <;> cases hc
  · rw [List.count_replicate]; rfl

theorem Told.put {D : DataW Unit} {ms : List Bool} (h : Told D ms) (ht : Tidy D) {j : Nat} (hj : j < ms.length) : Told (D.put (KI j) (.lit (.bool true))) (ms.set j true) := by
  refine ⟨fun c => ?_, fun c hc => ?_, ?_⟩
  · by_cases e : c = j
    · subst e
      rw [has_put_same ht.isMap (show WideAt.IsKeyLit (KI c) from trivial), List.getD_eq_getElem?_getD, List.getElem?_set_self hj]; rfl
    · rw [has_put_other (KI_ne e), h.has_, List.getD_eq_getElem?_getD, List.getD_eq_getElem?_getD, List.getElem?_set_ne (Ne.symm e)]
  · by_cases e : c = j
    · subst e
      exact atKey_put_same ht.isMap (show WideAt.IsKeyLit (KI c) from trivial) _ _
    · rw [List.getElem?_set_ne (Ne.symm e)] at hc
      rw [atKey_put_other (KI_ne e)]
      exact h.at_ c hc
  · rw [size_put ht, h.has_, h.size_, count_set_true hj]

theorem owns_frm {S : Nat → Prop} {w w' : World} {B n : Nat} {D : DataW Unit} (h : w.ownsMap Try.prog 3 (plainElem Try.prog 4) B n D) (f : Frm S w w') (hb : ¬ S B) : w'.ownsMap Try.prog 3 (plainElem Try.prog 4) B n D := by
  have hl := h.lt
  obtain ⟨es, clock, hB, r⟩ := h
  exact ⟨es, clock, (f.block B hl hb).trans hB, r⟩
end Go.Proofs.Ytfjojpfknjdjiaa

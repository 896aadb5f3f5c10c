/- Contracts of the program's graph: what a handle holds, the node that it holds, a handle turned, where a scalar stands. -/
import Derived.Test.YtjjjeeffllelaaaGgA
import Derived.Deep.QuietTactic
import Derived.BigQuiet
import Derived.BigRegion
import Derived.IntWalk
namespace Go.Proofs.Ytjjjeeffllelaaa
open Go.RowKit

abbrev gP (g : Nat) : Value := .pointer (some ⟨g, 0, none⟩)

section
variable {w : World} {g hb : Nat} {nd : List Pd} {hs : List Int} {lg : Int}

set_option maxHeartbeats 2000000 in
theorem hd_no (h : IsP w g hb nd hs lg) {a : Int} (ha : a < 0 ∨ hs.length ≤ a) :
    Calls Try.prog 38 #[gP g, .int .i64 a] w fun e w' => e = .returned (.tuple #[.pointer none, .int .i64 3]) ∧ w = w' := by
  obtain ⟨c0, _⟩ := h.two
  have hf := h.hfew
  clear h
  generalize hs.length = n at *
  unfold gP
  by_cases h0 : a < 0
  · have d0 : decide (a < 0) = true := decide_eq_true h0
    go_enter Try.func38, Try.ntmps38
    go_wp2
    go_ret2
    exact ⟨rfl, rfl⟩
  · have d0 : decide (a < 0) = false := decide_eq_false h0
    have h1 : (n : Int) ≤ a := by omega
    have d1 : decide (a ≥ (n : Int)) = true := decide_eq_true h1
    have d2 : decide ((n : Int) ≤ a) = true := decide_eq_true h1
    go_enter Try.func38, Try.ntmps38
    go_wp2
    go_ret2
    exact ⟨rfl, rfl⟩

set_option maxHeartbeats 2000000 in
theorem hd_yes (h : IsP w g hb nd hs lg) {i : Nat} {x : Int} (hx : hs[i]? = some x) :
    Calls Try.prog 38 #[gP g, .int .i64 i] w fun e w' => e = .returned (.tuple #[ptV (bls nd) x, .int .i64 0]) ∧ w = w' := by
  obtain ⟨c0, _⟩ := h.two
  have c1 := h.held hx
  have hf := h.hfew
  have hi := (List.getElem?_eq_some_iff.1 hx).1
  clear h hx
  generalize hs.length = n at *
  unfold gP ptV at *
  generalize ptA (bls nd) x = q at *
  have d0 : decide ((i : Int) < 0) = false := decide_eq_false (by omega)
  have d1 : decide ((i : Int) ≥ (n : Int)) = false := decide_eq_false (by omega)
  have d2 : decide ((n : Int) ≤ (i : Int)) = false := decide_eq_false (by omega)
  go_enter Try.func38, Try.ntmps38
  go_wp2
  go_ret2
  exact ⟨rfl, rfl⟩

set_option maxHeartbeats 2000000 in
theorem nod_no (h : IsP w g hb nd hs lg) {a : Int} (ha : a < 0 ∨ hs.length ≤ a) :
    Calls Try.prog 39 #[gP g, .int .i64 a] w fun e w' => e = .returned (.tuple #[.pointer none, .int .i64 3]) ∧ w = w' := by
  have H := Lib.hid (hd_no h ha)
  clear h ha
  unfold gP at *
  go_enter Try.func39, Try.ntmps39
  go_wp2_with fail
  refine H.out.mono ?_
  rintro e w1 ⟨rfl, rfl⟩
  go_wp2
  go_ret2
  exact ⟨rfl, rfl⟩

set_option maxHeartbeats 2000000 in
theorem nod_nil (h : IsP w g hb nd hs lg) {i : Nat} (hx : hs[i]? = some 0) :
    Calls Try.prog 39 #[gP g, .int .i64 i] w fun e w' => e = .returned (.tuple #[.pointer none, .int .i64 4]) ∧ w = w' := by
  have H := Lib.hid (hd_yes h hx)
  rw [ptV_zero] at H
  clear h hx
  unfold gP at *
  go_enter Try.func39, Try.ntmps39
  go_wp2_with fail
  refine H.out.mono ?_
  rintro e w1 ⟨rfl, rfl⟩
  go_wp2
  go_ret2
  exact ⟨rfl, rfl⟩

set_option maxHeartbeats 2000000 in
theorem nod_yes (h : IsP w g hb nd hs lg) {i k : Nat} {y : Pd} (hx : hs[i]? = some ((k + 1 : Nat) : Int)) (hy : nd[k]? = some y) :
    Calls Try.prog 39 #[gP g, .int .i64 i] w fun e w' => e = .returned (.tuple #[gP y.nb, .int .i64 0]) ∧ w = w' := by
  have H := Lib.hid (hd_yes h hx)
  rw [ptV_at hy] at H
  clear h hx
  unfold gP at *
  go_enter Try.func39, Try.ntmps39
  go_wp2_with fail
  refine H.out.mono ?_
  rintro e w1 ⟨rfl, rfl⟩
  go_wp2
  go_ret2
  exact ⟨rfl, rfl⟩

set_option maxHeartbeats 2000000 in
theorem hold_no (h : IsP w g hb nd hs lg) {a : Int} (ha : a < 0 ∨ hs.length ≤ a) (p : Option Addr) :
    Calls Try.prog 24 #[gP g, .int .i64 a, .pointer p] w fun e w' => e = .returned (.int .i64 3) ∧ w = w' := by
  have H := Lib.hid (hd_no h ha)
  clear h ha
  unfold gP at *
  go_enter Try.func24, Try.ntmps24
  go_wp2_with fail
  refine H.out.mono ?_
  rintro e w1 ⟨rfl, rfl⟩
  go_wp2
  go_ret
  exact ⟨rfl, rfl⟩

set_option maxHeartbeats 2000000 in
theorem hold_yes (h : IsP w g hb nd hs lg) {i : Nat} (hi : i < hs.length) (p : Option Addr) :
    Calls Try.prog 24 #[gP g, .int .i64 i, .pointer p] w fun e w' => e = .returned (.int .i64 0) ∧ w' = w.setCell ⟨hb, i, none⟩ (.pointer p) := by
  have hx := List.getElem?_eq_getElem hi
  have H := Lib.hid (hd_yes h hx)
  obtain ⟨c0, _⟩ := h.two
  have c1 := h.held hx
  have cf := h.hrow.frozen
  have hf := h.hfew
  generalize hs[i] = x at *
  clear h hx
  generalize hs.length = n at *
  unfold gP ptV at *
  go_enter Try.func24, Try.ntmps24
  go_wp2_with fail
  refine H.out.mono ?_
  rintro e w1 ⟨rfl, rfl⟩
  go_wp2
  go_ret
  exact ⟨rfl, rfl⟩

set_option maxHeartbeats 2000000 in
/-- No scalar: no handle, no node, no field. -/
theorem sca_err (a b x : Int) (hn : x ≠ 0) (H : Calls Try.prog 39 #[gP g, .int .i64 a] w fun e w' => e = .returned (.tuple #[.pointer none, .int .i64 x]) ∧ w = w') :
    Calls Try.prog 40 #[gP g, .int .i64 a, .int .i64 b] w fun e w' => e = .returned (.tuple #[.pointer none, .int .i64 x]) ∧ w = w' := by
  have H := Lib.hid H
  have q : (x != 0) = true := by simpa using hn
  unfold gP at *
  go_enter Try.func40, Try.ntmps40
  go_wp2_with fail
  refine H.out.mono ?_
  rintro e w1 ⟨rfl, rfl⟩
  go_wp2
  go_ret2
  exact ⟨rfl, rfl⟩

set_option maxHeartbeats 2000000 in
theorem sca_far (h : IsP w g hb nd hs lg) {i k : Nat} {y : Pd} (hx : hs[i]? = some ((k + 1 : Nat) : Int)) (hy : nd[k]? = some y) {b : Int} (hb_ : b < 0 ∨ y.ss.length ≤ b) :
    Calls Try.prog 40 #[gP g, .int .i64 i, .int .i64 b] w fun e w' => e = .returned (.tuple #[.pointer none, .int .i64 5]) ∧ w = w' := by
  have H := Lib.hid (nod_yes h hx hy)
  have kb := h.box y (List.mem_of_getElem? hy)
  have c1 := kb.cell 1
  have hz := h.size y (List.mem_of_getElem? hy)
  have lb := kb.lt
  clear h hx hy kb
  unfold gP pdB at *
  generalize y.ss.length = n at *
  by_cases h0 : b < 0
  · have d0 : decide (b < 0) = true := decide_eq_true h0
    go_enter Try.func40, Try.ntmps40
    go_wp2_with fail
    refine H.out.mono ?_
    rintro e w1 ⟨rfl, rfl⟩
    go_wp2
    go_ret2
    exact ⟨rfl, rfl⟩
  · have d0 : decide (b < 0) = false := decide_eq_false h0
    have h1 : (n : Int) ≤ b := by omega
    have d1 : decide (b ≥ (n : Int)) = true := decide_eq_true h1
    have d2 : decide ((n : Int) ≤ b) = true := decide_eq_true h1
    go_enter Try.func40, Try.ntmps40
    go_wp2_with fail
    refine H.out.mono ?_
    rintro e w1 ⟨rfl, rfl⟩
    go_wp2
    go_ret2
    exact ⟨rfl, rfl⟩

set_option maxHeartbeats 2000000 in
theorem sca_yes (h : IsP w g hb nd hs lg) {i k : Nat} {y : Pd} (hx : hs[i]? = some ((k + 1 : Nat) : Int)) (hy : nd[k]? = some y) {j : Nat} (hj : j < y.ss.length) :
    Calls Try.prog 40 #[gP g, .int .i64 i, .int .i64 j] w fun e w' => e = .returned (.tuple #[.pointer (some ⟨y.sb, j, none⟩), .int .i64 0]) ∧ w = w' := by
  have H := Lib.hid (nod_yes h hx hy)
  have kb := h.box y (List.mem_of_getElem? hy)
  have c1 := kb.cell 1
  have hz := h.size y (List.mem_of_getElem? hy)
  have lb := kb.lt
  clear h hx hy kb
  unfold gP pdB at *
  generalize y.ss.length = n at *
  have d0 : decide ((j : Int) < 0) = false := decide_eq_false (by omega)
  have d1 : decide ((j : Int) ≥ (n : Int)) = false := decide_eq_false (by omega)
  have d2 : decide ((n : Int) ≤ (j : Int)) = false := decide_eq_false (by omega)
  go_enter Try.func40, Try.ntmps40
  go_wp2_with fail
  refine H.out.mono ?_
  rintro e w1 ⟨rfl, rfl⟩
  go_wp2
  go_ret2
  exact ⟨rfl, rfl⟩
end
end Go.Proofs.Ytjjjeeffllelaaa

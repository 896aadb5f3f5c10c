/- An arena in memory; contracts of has, Len. -/
import Derived.Test.YthhbamllnacklaaFrm
namespace Go.Proofs.Ythhbamllnacklaa
open Go.RowKit

/-- Words as cells. -/
def u64s (ws : List Int) : Array Value := (ws.map (Value.int .u64)).toArray

/-- Block a is an arena whose words ws lie in block b, and of which c words were asked for. -/
def IsAr (w : World) (a b : Nat) (ws : List Int) (c : Int) : Prop :=
  Blk w a #[.slice (some ⟨b, 0, none⟩) ws.length ws.length, .int .i64 c] 64 ∧ Blk w b (u64s ws) 22

abbrev arP (a : Nat) : Value := .pointer (some ⟨a, 0, none⟩)

/-- Are there n words from a place on? -/
def hasB (len : Nat) (at_ n : Int) : Bool := decide (0 ≤ n ∧ 0 ≤ at_ ∧ n ≤ len - at_)

theorem hasB_iff (len : Nat) (at_ n : Int) : hasB len at_ n = true ↔ 0 ≤ n ∧ 0 ≤ at_ ∧ at_ + n ≤ len := by
  unfold hasB; rw [decide_eq_true_eq]; omega
theorem hasB_no (len : Nat) (at_ n : Int) : hasB len at_ n = false ↔ ¬ (0 ≤ n ∧ 0 ≤ at_ ∧ at_ + n ≤ len) := by
  unfold hasB; rw [decide_eq_false_iff_not]; omega

section
variable {w w' : World} {a b : Nat} {ws : List Int} {c : Int}
theorem IsAr.ne (h : IsAr w a b ws c) : a ≠ b := h.1.ne_ h.2 (by decide)
theorem IsAr.ltA (h : IsAr w a b ws c) : a < w.heap.size := h.1.lt
theorem IsAr.ltB (h : IsAr w a b ws c) : b < w.heap.size := h.2.lt
theorem IsAr.cells (h : IsAr w a b ws c) : w.cell? ⟨a, 0, none⟩ = some (.slice (some ⟨b, 0, none⟩) ws.length ws.length) ∧ w.cell? ⟨a, 1, none⟩ = some (.int .i64 c) ∧ w.frozen? ⟨a, 1, none⟩ = false :=
  ⟨h.1.cell 0, h.1.cell 1, h.1.frozen 1⟩
theorem IsAr.word (h : IsAr w a b ws c) (k : Nat) (x : Int) (hx : ws[k]? = some x) : w.cell? ⟨b, k, none⟩ = some (.int .u64 x) := by
  rw [h.2.cell k]; simp [u64s, hx]
theorem IsAr.frm {S : Nat → Prop} (h : IsAr w a b ws c) (f : Frm S w w') (ha : ¬ S a) (hb : ¬ S b) : IsAr w' a b ws c := ⟨h.1.frm f ha, h.2.frm f hb⟩
theorem IsAr.keep (h : IsAr w a b ws c) (f : Below w.heap.size w w') : IsAr w' a b ws c := ⟨h.1.keep f, h.2.keep f⟩
theorem IsAr.alloc (h : IsAr w a b ws c) (o : Obj) : IsAr (w.alloc o) a b ws c := ⟨h.1.alloc o, h.2.alloc o⟩
end

set_option maxHeartbeats 400000 in
theorem has_nil (at_ n : Int) (w : World) :
    Calls Try.prog 36 #[.pointer none, .int .i64 at_, .int .i64 n] w fun e w' => e = .returned (.bool false) ∧ w = w' := by
  go_enter Try.func36, Try.ntmps36
  go_wp2
  go_ret
  exact ⟨rfl, rfl⟩

set_option maxHeartbeats 1000000 in
theorem has_any (a b : Nat) (ws : List Int) (c at_ n : Int) (w : World) (h : IsAr w a b ws c) (hl : ws.length ≤ 1048576) (a1 : at_ ≤ 9223372036854775807) :
    Calls Try.prog 36 #[arP a, .int .i64 at_, .int .i64 n] w fun e w' => e = .returned (.bool (hasB ws.length at_ n)) ∧ w = w' := by
  obtain ⟨c0, _, _⟩ := h.cells
  clear h
  generalize ws.length = len at *
  by_cases h0 : 0 ≤ n
  · by_cases h1 : 0 ≤ at_
    · by_cases h2 : n ≤ len - at_
      all_goals
        go_enter Try.func36, Try.ntmps36
        go_wp2
        go_ret
        exact ⟨by simp [hasB, h0, h1, h2], rfl⟩
    · go_enter Try.func36, Try.ntmps36
      go_wp2
      go_ret
      exact ⟨by rw [show hasB len at_ n = false from (hasB_no ..).2 (by omega)]; rfl, rfl⟩
  · go_enter Try.func36, Try.ntmps36
    go_wp2
    go_ret
    exact ⟨by rw [show hasB len at_ n = false from (hasB_no ..).2 (by omega)]; rfl, rfl⟩

set_option maxHeartbeats 400000 in
theorem len_nil (w : World) : Calls Try.prog 30 #[.pointer none] w fun e w' => e = .returned (.int .i64 0) ∧ w = w' := by
  go_enter Try.func30, Try.ntmps30
  go_wp2
  go_ret
  exact ⟨rfl, rfl⟩

set_option maxHeartbeats 400000 in
theorem len_any (a b : Nat) (ws : List Int) (c : Int) (w : World) (h : IsAr w a b ws c) :
    Calls Try.prog 30 #[arP a] w fun e w' => e = .returned (.int .i64 ws.length) ∧ w = w' := by
  obtain ⟨c0, _, _⟩ := h.cells
  clear h
  generalize ws.length = len at *
  go_enter Try.func30, Try.ntmps30
  go_wp2
  go_ret
  exact ⟨rfl, rfl⟩
end Go.Proofs.Ythhbamllnacklaa

/- Contracts of the small functions of package conf and of the statements of layer 3: within, in, divides, all. -/
import Derived.Test.YtehnpljegpiilaaLaw
namespace Go.Proofs.Ytehnpljegpiilaa
open Go.RowKit

def wiB (n f t : Int) : Bool := decide (f ≤ n ∧ n ≤ t)

set_option maxHeartbeats 400000 in
theorem confWithin_any (n f t : Int) (w : World) :
    Calls Try.prog 16 #[.int .i64 n, .int .i64 f, .int .i64 t] w fun e w' => e = .returned (.bool (wiB n f t)) ∧ w = w' := by
  by_cases h0 : f ≤ n
  · by_cases h1 : n ≤ t
    all_goals
      go_enter Try.func16, Try.ntmps16
      go_wp2
      go_ret
      exact ⟨by simp [wiB, h0, h1], rfl⟩
  · go_enter Try.func16, Try.ntmps16
    go_wp2
    go_ret
    exact ⟨by rw [show wiB n f t = false from by unfold wiB; exact decide_eq_false (by omega)]; rfl, rfl⟩

set_option maxHeartbeats 400000 in
theorem lawIn_any (n f t : Int) (w : World) :
    Calls Try.prog 14 #[.int .i64 n, .int .i64 f, .int .i64 t] w fun e w' => e = .returned (.bool (wiB n f t)) ∧ w = w' := by
  by_cases h0 : f ≤ n
  · by_cases h1 : n ≤ t
    all_goals
      go_enter Try.func14, Try.ntmps14
      go_wp2
      go_ret
      exact ⟨by simp [wiB, h0, h1], rfl⟩
  · go_enter Try.func14, Try.ntmps14
    go_wp2
    go_ret
    exact ⟨by rw [show wiB n f t = false from by unfold wiB; exact decide_eq_false (by omega)]; rfl, rfl⟩

def dvB (p n : Int) : Bool := decide (1 ≤ p) && (n.tmod p == 0)

set_option maxHeartbeats 400000 in
theorem divides_any (p n : Int) (w : World) :
    Calls Try.prog 17 #[.int .i64 p, .int .i64 n] w fun e w' => e = .returned (.bool (dvB p n)) ∧ w = w' := by
  by_cases h0 : 1 ≤ p
  · go_enter Try.func17, Try.ntmps17
    go_wp2
    go_ret
    exact ⟨by simp [dvB, h0], rfl⟩
  · go_enter Try.func17, Try.ntmps17
    go_wp2
    go_ret
    exact ⟨by rw [show dvB p n = false from by unfold dvB; rw [decide_eq_false (by omega)]; rfl]; rfl, rfl⟩

set_option maxHeartbeats 1000000 in
theorem all_any (bs : List Bool) (b : Nat) (t : TypeId) (w : World) (hn : bs.length ≤ 1000) (h : Blk w b (bs.map Value.bool).toArray t) :
    Calls Try.prog 15 #[.slice (some ⟨b, 0, none⟩) bs.length bs.length] w fun e w' => e = .returned (.bool (bs.all id)) ∧ w = w' := by
  have hc : ∀ i : Nat, w.cell? ⟨b, i, none⟩ = (bs[i]?).map Value.bool := fun i => by rw [h.cell]; simp
  have hfz := h.frozen
  have HC := Lib.hid hc
  clear hc h
  go_enter Try.func15, Try.ntmps15
  go_wp2_with fail
  go_loopw [7] (fun i wr => ∃ j : Nat, j ≤ bs.length ∧ i = .int .i64 j ∧ (∀ k, k < j → bs[k]? = some true) ∧ w = wr) (fun i _ => bs.length - (intOf i).toNat)
  case atStart => exact ⟨0, Nat.zero_le _, rfl, fun k hk => by omega, rfl⟩
  case round =>
    obtain ⟨j, hj, rfl, ht, rfl⟩ := hrel
    have HT := Lib.hid ht
    clear ht
    by_cases hlt : j < bs.length
    · obtain ⟨x, hx⟩ : ∃ x, bs[j]? = some x := ⟨_, List.getElem?_eq_getElem hlt⟩
      have hcj := HC.out j
      rw [hx, Option.map_some] at hcj
      have HX := Lib.hid hx
      clear hx
      cases x
      · go_wp2
        go_ret
        refine ⟨?_, rfl⟩
        have : bs.all id = false := by
          rw [List.all_eq_false]
          exact ⟨false, List.mem_of_getElem? HX.out, by simp⟩
        rw [this]; rfl
      · go_wp2
        go_roundw
        case rel => exact ⟨j + 1, by omega, by go_num, fun k hk => by
          by_cases e : k = j
          · subst e; exact HX.out
          · exact HT.out k (by omega), by trivial⟩
        case measure => simp [intOf]; omega
    · obtain rfl : j = bs.length := by omega
      go_wp2
      go_ret
      refine ⟨?_, rfl⟩
      have : bs.all id = true := by
        rw [List.all_eq_true]
        intro x hx
        obtain ⟨k, hk, rfl⟩ := List.getElem_of_mem hx
        have := HT.out k hk
        rw [List.getElem?_eq_getElem hk] at this
        simpa using this
      rw [this]; rfl
end Go.Proofs.Ytehnpljegpiilaa

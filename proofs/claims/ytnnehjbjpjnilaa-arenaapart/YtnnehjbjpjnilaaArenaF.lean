/- The walk of the statement ArenaApart. -/
import Derived.Test.YtnnehjbjpjnilaaArenaE
namespace Go.Proofs.Ytnnehjbjpjnilaa
open Go.RowKit

theorem set_all (ws : List Int) (S j : Nat) (x : Int) (hl : ws.length = S) (hj : j < S) (h : ∀ t, t < j → ws[t]? = some (3 * (t : Int))) (hx : x = 3 * (j : Int)) :
    (ws.set j x).length = S ∧ ∀ t, t < j + 1 → (ws.set j x)[t]? = some (3 * (t : Int)) := by
  refine ⟨by simpa using hl, fun t ht => ?_⟩
  by_cases e : t = j
  · subst e; subst hx; rw [List.getElem?_set]; simp; omega
  · rw [List.getElem?_set, if_neg (fun h => e h.symm)]; exact h t (by omega)

/-- What the arena holds in the first loop. -/
def Apart1 (W wr : World) (a b S j : Nat) : Prop := ∃ ws c, IsAr wr a b ws c ∧ ws.length = S ∧ (∀ t, t < j → ws[t]? = some (3 * (t : Int))) ∧ Below W.heap.size W wr
def Apart2 (W wr : World) (a b S k : Nat) (y : Int) : Prop := ∃ ws c, IsAr wr a b ws c ∧ ws.length = S ∧ (∀ t, t < S → ws[t]? = some (if t = k then y else 3 * (t : Int))) ∧ Below W.heap.size W wr

set_option maxHeartbeats 4000000 in
theorem arenaApart_walk (n : Int) (n0 : 0 ≤ n) (n1 : n ≤ 255) (at_ : Int) (a0 : 0 ≤ at_) (a1 : at_ ≤ 255) (y : Int) (w : World) :
    Calls Try.prog 7 #[.int .u8 n, .int .u8 at_, .int .u64 y] w fun e w' => e = .returned (.bool true) ∧ Below w.heap.size w w' := by
  obtain ⟨S, hS⟩ : ∃ S : Nat, n % 60 + 1 = (S : Int) := ⟨(n % 60 + 1).toNat, by omega⟩
  have s0 : 1 ≤ S := by omega
  have s1 : S ≤ 60 := by omega
  obtain ⟨k, hk⟩ : ∃ k : Nat, at_ % (S : Int) = (k : Int) := ⟨(at_ % (S : Int)).toNat, by have := Int.emod_nonneg at_ (b := (S : Int)) (by omega); omega⟩
  have k1 : k < S := by have := Int.emod_lt_of_pos at_ (b := (S : Int)) (by omega); omega
  go_enter Try.func7, Try.ntmps7
  go_wp2_with fail
  refine (new_any _ _).mono ?_
  rintro e w1 ⟨rfl, i1, b1⟩
  have R0 : Apart1 w w1 (w.heap.size + 1) w.heap.size S 0 := ⟨_, _, i1, by rw [List.length_replicate]; unfold clampN; omega, fun t ht => by omega, b1⟩
  clear i1 b1
  go_wp2_with fail
  go_loopw [10] (fun i wr => ∃ j : Nat, j ≤ S ∧ i = .int .i64 j ∧ Apart1 w wr (w.heap.size + 1) w.heap.size S j) (fun i _ => S - (intOf i).toNat)
  case atStart => exact ⟨0, Nat.zero_le _, rfl, R0⟩
  case round =>
    obtain ⟨j, hj, rfl, R⟩ := hrel
    by_cases hlt : j < S
    · obtain ⟨ws, c, hi, hl, ht, hb⟩ := R
      have HL := Lib.hid hl
      have HT := Lib.hid ht
      clear hl ht
      go_wp2_with fail
      refine (store_at _ _ _ _ _ hi (by have := HL.out; omega) j _ (by omega) (by have := HL.out; omega)).mono ?_
      rintro e w2 ⟨rfl, t2⟩
      have hs := set_all ws S j _ HL.out hlt HT.out rfl
      have R2 : Apart1 w w2 (w.heap.size + 1) w.heap.size S (j + 1) := ⟨_, _, t2.is, by simpa using HL.out, by
        intro t ht
        have := hs.2 t ht
        simpa [Int.mul_comm] using this, below_turns hb t2 (by omega) (by omega)⟩
      clear hs t2 hi hb HL HT
      go_wp2
      go_roundw
      case rel => exact ⟨j + 1, by omega, by go_num, R2⟩
      case measure => simp [intOf]; omega
    · obtain ⟨ws, c, hi, hl, ht, hb⟩ := R
      have ej : j = S := by omega
      have HL := Lib.hid hl
      have HT := Lib.hid (fun t (h : t < S) => ht t (by omega))
      clear hl ht
      subst ej
      go_wp2_with fail
      refine (store_at _ _ _ _ _ hi (by have := HL.out; omega) k y (by omega) (by have := HL.out; omega)).mono ?_
      rintro e w2 ⟨rfl, t2⟩
      have R2 : Apart2 w w2 (w.heap.size + 1) w.heap.size j k y := ⟨_, _, t2.is, by simpa using HL.out, by
        intro t ht
        have h1 := HT.out t ht
        have h2 := HL.out
        rw [Int.toNat_natCast, List.getElem?_set]
        by_cases e : k = t
        · subst e; simp; omega
        · rw [if_neg e, if_neg (Ne.symm e)]; exact h1, below_turns hb t2 (by omega) (by omega)⟩
      clear t2 hi hb HL HT
      go_wp2_with fail
      go_loopw [11] (fun i wr => ∃ q : Nat, q ≤ 2 * j ∧ i = .int .i64 q ∧ Apart2 w wr (w.heap.size + 1) w.heap.size j k y) (fun i _ => 2 * j - (intOf i).toNat)
      case atStart => exact ⟨0, Nat.zero_le _, rfl, R2⟩
      case round =>
        obtain ⟨q, hq, rfl, R⟩ := hrel
        by_cases hlt2 : q < 2 * j
        · obtain ⟨ws, c, hi, hl, ht, hb⟩ := R
          have hm : q % j < j := Nat.mod_lt _ (by omega)
          obtain ⟨m, hm0⟩ : ∃ m, q % j = m := ⟨_, rfl⟩
          rw [hm0] at hm
          have hme : (q : Int) % (j : Int) = (m : Int) := by rw [← hm0]; simp
          have hx := ht m hm
          have HL := Lib.hid hl
          have HT := Lib.hid ht
          have HX := Lib.hid hx
          clear hl ht hx hm0
          by_cases ek : m = k
          · rw [if_pos ek] at HX
            subst ek
            go_wp2_with fail
            refine (load_at _ _ _ _ _ hi (by have := HL.out; omega) m y (by omega) HX.out).mono ?_
            rintro e w2 ⟨rfl, t2⟩
            have R3 : Apart2 w w2 (w.heap.size + 1) w.heap.size j m y := ⟨_, _, t2.is, HL.out, HT.out, below_turns hb t2 (by omega) (by omega)⟩
            clear t2 hi hb HL HT HX
            go_wp2
            go_roundw
            case rel => exact ⟨q + 1, by omega, by go_num, R3⟩
            case measure => simp [intOf]; omega
          · rw [if_neg ek, Int.mul_comm] at HX
            have e1 : ((m : Int) == (k : Int)) = false := beq_eq_false_iff_ne.2 (by omega)
            have e2 : ((m : Int) != (k : Int)) = true := by rw [bne_iff_ne]; omega
            go_wp2_with fail
            refine (load_at _ _ _ _ _ hi (by have := HL.out; omega) m _ (by omega) HX.out).mono ?_
            rintro e w2 ⟨rfl, t2⟩
            have R3 : Apart2 w w2 (w.heap.size + 1) w.heap.size j k y := ⟨_, _, t2.is, HL.out, HT.out, below_turns hb t2 (by omega) (by omega)⟩
            clear t2 hi hb HL HT HX
            go_wp2
            go_roundw
            case rel => exact ⟨q + 1, by omega, by go_num, R3⟩
            case measure => simp [intOf]; omega
        · obtain ⟨ws, c, hi, hl, ht, hb⟩ := R
          have HL := Lib.hid hl
          have HT := Lib.hid ht
          clear hl ht
          go_wp2_with fail
          refine (awake_any _).mono ?_
          rintro e w2 ⟨rfl, b2⟩
          go_wp2
          go_ret
          exact ⟨rfl, below_trans hb b2⟩
end Go.Proofs.Ytnnehjbjpjnilaa

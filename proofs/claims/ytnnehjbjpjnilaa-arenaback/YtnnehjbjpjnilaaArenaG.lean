/- The walk of the statement ArenaBack. -/
import Derived.Test.YtnnehjbjpjnilaaArenaE
import Derived.Test.YtnnehjbjpjnilaaLists
import Derived.Deep.DeepCutAuto
namespace Go.Proofs.Ytnnehjbjpjnilaa
open Go.RowKit

theorem back_set (ws xs : List Int) (S j : Nat) (x : Int) (hl : ws.length = 3 * S) (hj : j < S) (h : ∀ t, t < j → ws[S + t]? = xs[t]?) (hz : ∀ t, t < S → ws[2 * S + t]? = some 0) (hx : xs[j]? = some x) :
    (ws.set (S + j) x).length = 3 * S ∧ (∀ t, t < j + 1 → (ws.set (S + j) x)[S + t]? = xs[t]?) ∧ ∀ t, t < S → (ws.set (S + j) x)[2 * S + t]? = some 0 := by
  refine ⟨by simpa using hl, fun t ht => ?_, fun t ht => ?_⟩
  · by_cases e : t = j
    · subst e; rw [List.getElem?_set, if_pos rfl, if_pos (by omega), hx]
    · rw [List.getElem?_set, if_neg (by omega)]; exact h t (by omega)
  · rw [List.getElem?_set, if_neg (by omega)]; exact hz t ht

def back1 (ws : List Int) (S k : Nat) : List Int := splice ws 0 ((ws.drop S).take k)
def back2 (ws : List Int) (S k : Nat) : List Int := splice (back1 ws S k) S (List.replicate k 0)
def back3 (ws : List Int) (S k : Nat) : List Int := splice (back2 ws S k) S (((back2 ws S k).drop 0).take k)

theorem back_words (ws xs : List Int) (S k : Nat) (hl : ws.length = 3 * S) (hk : k ≤ S) (h : ∀ t, t < S → ws[S + t]? = xs[t]?) (hz : ∀ t, t < S → ws[2 * S + t]? = some 0) :
    (back1 ws S k).length = 3 * S ∧ (back2 ws S k).length = 3 * S ∧ (back3 ws S k).length = 3 * S ∧ (∀ t, t < S → (back3 ws S k)[S + t]? = xs[t]?) ∧ ∀ t, t < S → (back3 ws S k)[2 * S + t]? = some 0 := by
  have c1 : ((ws.drop S).take k).length = k := by simp; omega
  have l1 : (back1 ws S k).length = 3 * S := by unfold back1; rw [length_splice _ _ _ (by omega), hl]
  have l2 : (back2 ws S k).length = 3 * S := by unfold back2; rw [length_splice _ _ _ (by simp; omega), l1]
  have c3 : (((back2 ws S k).drop 0).take k).length = k := by simp; omega
  have l3 : (back3 ws S k).length = 3 * S := by unfold back3; rw [length_splice _ _ _ (by omega), l2]
  have g1 : ∀ t, (back1 ws S k)[t]? = if t < k then ws[S + t]? else ws[t]? := by
    intro t
    unfold back1
    rw [getElem?_splice _ _ _ _ (by omega), c1]
    by_cases e : t < k
    · rw [if_pos (by omega), if_pos e, List.getElem?_take, if_pos (by omega), List.getElem?_drop]; rfl
    · rw [if_neg (by omega), if_neg e]
  have g2 : ∀ t, ¬ (S ≤ t ∧ t < S + k) → (back2 ws S k)[t]? = (back1 ws S k)[t]? := by
    intro t ht
    unfold back2
    rw [getElem?_splice _ _ _ _ (by simp; omega), if_neg (by simpa using ht)]
  have g3 : ∀ t, (back3 ws S k)[t]? = if S ≤ t ∧ t < S + k then (back2 ws S k)[t - S]? else (back2 ws S k)[t]? := by
    intro t
    unfold back3
    rw [getElem?_splice _ _ _ _ (by omega), c3]
    by_cases e : S ≤ t ∧ t < S + k
    · rw [if_pos e, if_pos e, List.drop_zero, List.getElem?_take, if_pos (by omega)]
    · rw [if_neg e, if_neg e]
  refine ⟨l1, l2, l3, fun t ht => ?_, fun t ht => ?_⟩
  · rw [g3]
    by_cases e : t < k
    · rw [if_pos (by omega), g2 _ (by omega), g1, if_pos (by omega), show S + (S + t - S) = S + t from by omega]; exact h t ht
    · rw [if_neg (by omega), g2 _ (by omega), g1, if_neg (by omega)]; exact h t ht
  · rw [g3, if_neg (by omega), g2 _ (by omega), g1, if_neg (by omega)]; exact hz t ht

def Back1 (W wr : World) (a b S j : Nat) (xs : List Int) : Prop := ∃ ws, IsAr wr a b ws j ∧ ws.length = 3 * S ∧ (∀ t, t < j → ws[S + t]? = xs[t]?) ∧ (∀ t, t < S → ws[2 * S + t]? = some 0) ∧ Below W.heap.size W wr
def Back2 (W wr : World) (a b S k q : Nat) (xs : List Int) : Prop := ∃ ws, IsAr wr a b ws ((S : Int) + 5 * k + 2 * q) ∧ ws.length = 3 * S ∧ (∀ t, t < S → ws[S + t]? = xs[t]?) ∧ (∀ t, t < S → ws[2 * S + t]? = some 0) ∧ Below W.heap.size W wr

/-- The list, cut to a hundred. -/
def BackArg (w : World) (s : Value) (wc : World) : Prop := ∃ A S c xs, s = .slice A S c ∧ S ≤ 100 ∧ S ≤ c ∧ Rd .u64 w A S xs ∧ w = wc

set_option maxHeartbeats 4000000 in
set_option maxRecDepth 100000 in
theorem arenaBack_walk (A0 : Option Addr) (N c0 : Nat) (ys : List Int) (n : Int) (n0 : 0 ≤ n) (n1 : n ≤ 255) (w : World) (hc0 : N ≤ c0) (hm : c0 ≤ maxLen) (hr0 : Rd .u64 w A0 N ys) :
    Calls Try.prog 6 #[.slice A0 N c0, .int .u8 n] w fun e w' => e = .returned (.bool true) ∧ Below w.heap.size w w' := by
  unfold maxLen at hm
  have HR0 := Lib.hid hr0
  clear hr0
  go_enter Try.func6, Try.ntmps6
  go_upto_if 16 with (fail)
  go_cut [0] (fun s wc => BackArg w s wc)
  case first =>
    by_cases h : 100 < N
    · have e0 : ¬ c0 = 0 := by omega
      go_wp2
      go_meet
      case rel => exact ⟨A0, 100, c0, ys.take 100, by cases A0 <;> rfl, by omega, by omega, HR0.out.take 100 (by omega), rfl⟩
    · go_wp2
      go_meet
      case rel => exact ⟨A0, N, c0, ys, rfl, by omega, by omega, HR0.out, rfl⟩
  case rest =>
    obtain ⟨A, S, c, xs, rfl, hs, hc, hr, rfl⟩ := hcut
    have HR := Lib.hid hr
    clear hr HR0
    obtain ⟨k, hk⟩ : ∃ k : Nat, n % ((S : Int) + 1) = (k : Int) := ⟨(n % ((S : Int) + 1)).toNat, by have := Int.emod_nonneg n (b := (S : Int) + 1) (by omega); omega⟩
    have hk1 : k ≤ S := by have := Int.emod_lt_of_pos n (b := (S : Int) + 1) (by omega); omega
    go_wp2_with fail
    refine (new_any _ _).mono ?_
    rintro e w1 ⟨rfl, i1, b1⟩
    have R0 : Back1 w w1 (w.heap.size + 1) w.heap.size S 0 xs := ⟨_, i1.to rfl rfl, by rw [List.length_replicate]; unfold clampN; omega, fun t ht => by omega, fun t ht => by rw [List.getElem?_replicate, if_pos (by unfold clampN; omega)], b1⟩
    clear i1 b1
    go_wp2_with fail
    go_loopw [7] (fun i wr => ∃ j : Nat, j ≤ S ∧ i = .int .i64 j ∧ Back1 w wr (w.heap.size + 1) w.heap.size S j xs) (fun i _ => S - (intOf i).toNat)
    case atStart => exact ⟨0, Nat.zero_le _, rfl, R0⟩
    case round =>
      obtain ⟨j, hj, rfl, R⟩ := hrel
      by_cases hlt : j < S
      · obtain ⟨ws, hi, hl, ht, hz, hb⟩ := R
        obtain ⟨ad, x, hA, hx, hc⟩ := HR.out.at_ hb hlt
        obtain rfl := hA
        have hs := back_set ws xs S j x hl hlt ht hz hx
        have HL := Lib.hid hl
        have HX := Lib.hid hx
        have HS := Lib.hid hs
        clear hl ht hz hx hs
        go_wp2_with fail
        refine (store_at _ _ _ _ _ hi (by have := HL.out; omega) (S + j) x (by omega) (by have := HL.out; omega)).mono ?_
        rintro e w2 ⟨rfl, t2⟩
        have R2 : Back1 w w2 (w.heap.size + 1) w.heap.size S (j + 1) xs := ⟨_, t2.is.to (by rw [show ((S : Int) + j).toNat = S + j from by omega]) (by rw [addC_in _ _ (by omega) (by omega)]; omega), HS.out.1, HS.out.2.1, HS.out.2.2, below_turns hb t2 (by omega) (by omega)⟩
        clear t2 hi hb HL HX HS
        go_wp2
        go_roundw
        case rel => exact ⟨j + 1, by omega, by go_num, R2⟩
        case measure => simp [intOf]; omega
      · obtain ⟨ws, hi, hl, ht, hz, hb⟩ := R
        obtain rfl : j = S := by omega
        have hs := back_words ws xs j k hl hk1 ht hz
        have HL := Lib.hid hl
        have HS := Lib.hid hs
        clear hl ht hz hs
        go_wp2_with fail
        refine (copy_at _ _ _ _ _ hi (by have := HL.out; omega) j 0 k (by omega) (by omega) (by omega) (by have := HL.out; omega) (by have := HL.out; omega)).mono ?_
        rintro e w2 ⟨rfl, t2⟩
        have i2 := t2.is.to (ws' := back1 ws j k) (c' := (j : Int) + 2 * k) (by simp [back1]) (addC_in _ _ (by omega) (by omega))
        have l2 : (back1 ws j k).length = 3 * j := HS.out.1
        have b2 := below_turns hb t2 (by omega) (by omega)
        have L2 := Lib.hid l2
        clear t2 l2 hi hb
        go_wp2_with fail
        refine (zero_at _ _ _ _ _ i2 (by have := L2.out; omega) j k (by omega) (by omega) (by have := L2.out; omega)).mono ?_
        rintro e w3 ⟨rfl, t3⟩
        have i3 := t3.is.to (ws' := back2 ws j k) (c' := (j : Int) + 2 * k + k) (by simp [back2]) (addC_in _ _ (by omega) (by omega))
        have L3 := Lib.hid HS.out.2.1
        have b3 := below_turns b2 t3 (by omega) (by omega)
        clear t3 i2 b2 L2
        go_wp2_with fail
        refine (copy_at _ _ _ _ _ i3 (by have := L3.out; omega) 0 j k (by omega) (by omega) (by omega) (by have := L3.out; omega) (by have := L3.out; omega)).mono ?_
        rintro e w4 ⟨rfl, t4⟩
        have R2 : Back2 w w4 (w.heap.size + 1) w.heap.size j k 0 xs := ⟨_, t4.is.to (ws' := back3 ws j k) (c' := (j : Int) + 5 * k + 2 * (0 : Nat)) (by simp [back3]) (by rw [addC_in _ _ (by omega) (by omega)]; omega), HS.out.2.2.1, HS.out.2.2.2.1, HS.out.2.2.2.2, below_turns b3 t4 (by omega) (by omega)⟩
        clear t4 i3 b3 L3 HL HS
        go_wp2_with fail
        go_loopw [9] (fun i wr => ∃ q : Nat, q ≤ j ∧ i = .int .i64 q ∧ Back2 w wr (w.heap.size + 1) w.heap.size j k q xs) (fun i _ => j - (intOf i).toNat)
        case atStart => exact ⟨0, Nat.zero_le _, rfl, R2⟩
        case round =>
          obtain ⟨q, hq, rfl, R⟩ := hrel
          by_cases hlt2 : q < j
          · obtain ⟨ws, hi, hl, ht, hz, hb⟩ := R
            obtain ⟨ad, x, hA, hx, hc⟩ := HR.out.at_ hb hlt2
            obtain rfl := hA
            have h1 := (ht q hlt2).trans hx
            have h2 := hz q hlt2
            have HL := Lib.hid hl
            have H1 := Lib.hid h1
            have H2 := Lib.hid h2
            have HT := Lib.hid ht
            have HZ := Lib.hid hz
            clear hl ht hz hx h1 h2 hc
            go_wp2_with fail
            refine (load_at _ _ _ _ _ hi (by have := HL.out; omega) (j + q) x (by omega) (by rw [show ((j : Int) + q).toNat = j + q from by omega]; exact H1.out)).mono ?_
            rintro e w2 ⟨rfl, t2⟩
            have i2 := t2.is
            have b2 := below_turns hb t2 (by omega) (by omega)
            clear t2 hi hb
            go_wp2_with fail
            refine (load_at _ _ _ _ _ i2 (by have := HL.out; omega) (2 * j + q) 0 (by omega) (by rw [show (2 * (j : Int) + q).toNat = 2 * j + q from by omega]; exact H2.out)).mono ?_
            rintro e w3 ⟨rfl, t3⟩
            have b3 := below_turns b2 t3 (by omega) (by omega)
            have R3 : Back2 w w3 (w.heap.size + 1) w.heap.size j k (q + 1) xs := ⟨_, t3.is.to rfl (by rw [addC_in _ _ (by rw [addC_in _ _ (by omega) (by omega)]; omega) (by rw [addC_in _ _ (by omega) (by omega)]; omega), addC_in _ _ (by omega) (by omega)]; omega), HL.out, HT.out, HZ.out, b3⟩
            obtain ⟨ad', x', hA, hx', hc⟩ := HR.out.at_ b3 hlt2
            injection hA with hA
            subst hA
            obtain rfl : x = x' := by
              have := (HT.out q hlt2).symm.trans H1.out
              rw [hx'] at this
              injection this with this
              exact this.symm
            clear t3 i2 b2 b3 HL H1 H2 HT HZ hx'
            go_wp2
            go_roundw
            case rel => exact ⟨q + 1, by omega, by go_num, R3⟩
            case measure => simp [intOf]; omega
          · obtain ⟨ws, hi, hl, ht, hz, hb⟩ := R
            obtain rfl : q = j := by omega
            have HL := Lib.hid hl
            have HT := Lib.hid ht
            have HZ := Lib.hid hz
            clear hl ht hz
            go_wp2_with fail
            refine (awake_any _).mono ?_
            rintro e w2 ⟨rfl, b2⟩
            have i2 := hi.keep b2
            go_wp2_with fail
            refine (count_any _ _ _ _ _ i2).mono ?_
            rintro e w3 ⟨rfl, rfl⟩
            go_wp2
            go_ret
            exact ⟨rfl, below_trans hb b2⟩
end Go.Proofs.Ytnnehjbjpjnilaa

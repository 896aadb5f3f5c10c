/- The walk of ObjApart. -/
import Derived.Test.YthhbamllnacklaaObjH
namespace Go.Proofs.Ythhbamllnacklaa
open Go.RowKit

/-- What the arena holds: the second object, its head, its way, empty fields; of the first one the first k fields. -/
structure Side (V xs : List Int) (two s2 : Nat) (W : Int) (k : Nat) : Prop where
  len : V.length = 200
  head : V[two]? = some W
  way : V[two + 1]? = some (two : Int)
  zero : ∀ i, i < s2 → V[two + (2 + i)]? = some 0
  full : ∀ i x, i < k → xs[i]? = some x → V[1 + (2 + i)]? = some x

theorem Side.set {V xs : List Int} {two s2 k : Nat} {W x : Int} (h : Side V xs two s2 W k) (hx : xs[k]? = some x) (hk : 1 + (2 + k) < two) (ht : two ≤ 200) : Side (V.set (1 + (2 + k)) x) xs two s2 W (k + 1) := by
  refine ⟨by rw [List.length_set]; exact h.len, ?_, ?_, fun i hi => ?_, fun i z hi hz => ?_⟩
  · rw [List.getElem?_set_ne (by omega)]; exact h.head
  · rw [List.getElem?_set_ne (by omega)]; exact h.way
  · rw [List.getElem?_set_ne (by omega)]; exact h.zero i hi
  · by_cases e : i = k
    · subst e
      rw [hx] at hz
      cases hz
      rw [List.getElem?_set_self (by have := h.len; omega)]
    · rw [List.getElem?_set_ne (by omega)]; exact h.full i z (by omega) hz

theorem side_made {L xs : List Int} {two s2 : Nat} {W : Int} (hl : L.length = 200) (ht : two + (s2 + 2) ≤ 200) : Side (madeW L two s2 W) xs two s2 W 0 := by
  have e : madeW L two s2 W = ((splice L two (List.replicate (s2 + 2) 0)).set two W).set (two + 1) two := rfl
  have hs : (splice L two (List.replicate (s2 + 2) (0 : Int))).length = 200 := by rw [length_splice _ _ _ (by rw [List.length_replicate]; omega)]; exact hl
  rw [e]
  refine ⟨by rw [List.length_set, List.length_set]; exact hs, ?_, ?_, fun i hi => ?_, fun i z hi _ => absurd hi (by omega)⟩
  · rw [List.getElem?_set_ne (by omega), List.getElem?_set_self (by omega)]
  · rw [List.getElem?_set_self (by rw [List.length_set]; omega)]
  · rw [List.getElem?_set_ne (by omega), List.getElem?_set_ne (by omega), getElem?_splice _ _ _ _ (by rw [List.length_replicate]; omega), List.length_replicate, if_pos (by omega), List.getElem?_replicate, if_pos (by omega)]

/-- The whole at hand. -/
def ApR (w wr : World) (a b : Nat) (rs : List (Nat × Array Value × Nat)) (xs : List Int) (two s2 : Nat) (W : Int) (k : Nat) : Prop := ∃ V, Ses w wr a b V rs ∧ Side V xs two s2 W k

theorem ApR.keep {w wr w' : World} {a b two s2 k : Nat} {rs : List (Nat × Array Value × Nat)} {xs : List Int} {W : Int} (h : ApR w wr a b rs xs two s2 W k) (hb : Below wr.heap.size wr w') : ApR w w' a b rs xs two s2 W k := by
  obtain ⟨V, s, d⟩ := h
  exact ⟨V, s.keep hb, d⟩

set_option maxHeartbeats 8000000 in
set_option maxRecDepth 100000 in
theorem objApart_walk (s p q y : Int) (g nn o : Bool) (s' p' q' y' : Int) (g' nn' o' : Bool) (A : Option Addr) (n c : Nat) (xs : List Int) (w : World) (hn : n ≤ c) (hm : c ≤ maxLen) (hr : Rd .u64 w A n xs) :
    Calls Try.prog 7 #[hdV s p q y g nn o, hdV s' p' q' y' g' nn' o', .slice A n c] w fun e w' => e = .returned (.bool true) ∧ Below w.heap.size w w' := by
  have HR := Lib.hid hr
  have nm : (n : Int) ≤ 9223372036854775807 := by unfold maxLen at hm; omega
  clear hr hm hn
  have K1 := Lib.hid ((Blk.new w (hdC s p q y g nn o) 24).alloc (.cells (hdC s' p' q' y' g' nn' o') 24))
  have K2 := Lib.hid (Blk.new (w.alloc (.cells (hdC s p q y g nn o) 24)) (hdC s' p' q' y' g' nn' o') 24)
  have B := Lib.hid (((Below.refl w.heap.size w).alloc (Nat.le_refl _) (.cells (hdC s p q y g nn o) 24)).alloc (by simp) (.cells (hdC s' p' q' y' g' nn' o') 24))
  cases hgo : goodB s p q y
  · have HGO := Lib.hid hgo
    clear hgo
    go_enter Try.func7, Try.ntmps7
    go_wp2_with fail
    refine (refGood_any _ _ _ _ _ _ _ _).mono ?_
    rintro e w1 ⟨he, b1⟩
    rw [HGO.out] at he
    subst he
    have B := Lib.hid (below_trans B.out b1)
    clear b1
    go_wp2_with fail
    refine (awake_any _).mono ?_
    rintro e w2 ⟨rfl, b2⟩
    have B := Lib.hid (below_trans B.out b2)
    clear b2
    go_wp2
    go_ret
    exact ⟨rfl, B.out⟩
  · have HGO := Lib.hid hgo
    have hs := (goodB_iff ..).1 hgo
    clear hgo
    cases hgo' : goodB s' p' q' y'
    · have HGO' := Lib.hid hgo'
      clear hgo' hs
      go_enter Try.func7, Try.ntmps7
      go_wp2_with fail
      refine (refGood_any _ _ _ _ _ _ _ _).mono ?_
      rintro e w1 ⟨he, b1⟩
      rw [HGO.out] at he
      subst he
      have B := Lib.hid (below_trans B.out b1)
      obtain ⟨c0, c1, c2, c3, c4, c5, c6, fz⟩ := (K2.out.keep b1).seven
      rw [World.size_alloc] at c0 c1 c2 c3 c4 c5 c6 fz
      clear b1
      go_wp2_with fail
      refine (refGood_any _ _ _ _ _ _ _ _).mono ?_
      rintro e w2 ⟨he, b2⟩
      rw [HGO'.out] at he
      subst he
      have B := Lib.hid (below_trans B.out b2)
      clear b2 c0 c1 c2 c3 c4 c5 c6 fz
      go_wp2_with fail
      refine (awake_any _).mono ?_
      rintro e w3 ⟨rfl, b3⟩
      have B := Lib.hid (below_trans B.out b3)
      clear b3
      go_wp2
      go_ret
      exact ⟨rfl, B.out⟩
    · have HGO' := Lib.hid hgo'
      have hs' := (goodB_iff ..).1 hgo'
      clear hgo'
      obtain ⟨s0, s1, _, _, _, _, _, _⟩ := hs
      obtain ⟨t0, t1, _, _, _, _, _, _⟩ := hs'
      obtain ⟨S1, rfl⟩ := Int.eq_ofNat_of_zero_le s0
      obtain ⟨S2, rfl⟩ := Int.eq_ofNat_of_zero_le t0
      have u1 : S1 ≤ 64 := by omega
      have u2 : S2 ≤ 64 := by omega
      go_enter Try.func7, Try.ntmps7
      go_wp2_with fail
      refine (refGood_any _ _ _ _ _ _ _ _).mono ?_
      rintro e w1 ⟨he, b1⟩
      rw [HGO.out] at he
      subst he
      have B := Lib.hid (below_trans B.out b1)
      have K1 := Lib.hid (K1.out.keep b1)
      have K2 := Lib.hid (K2.out.keep b1)
      obtain ⟨c0, c1, c2, c3, c4, c5, c6, fz⟩ := K2.out.seven
      rw [World.size_alloc] at c0 c1 c2 c3 c4 c5 c6 fz
      clear b1
      go_wp2_with fail
      refine (refGood_any _ _ _ _ _ _ _ _).mono ?_
      rintro e w2 ⟨he, b2⟩
      rw [HGO'.out] at he
      subst he
      have B := Lib.hid (below_trans B.out b2)
      have K1 := Lib.hid (K1.out.keep b2)
      have K2 := Lib.hid (K2.out.keep b2)
      clear b2 c0 c1 c2 c3 c4 c5 c6 fz
      go_wp2_with fail
      refine (new_any _ _).mono ?_
      rintro e w3 ⟨rfl, i3, b3⟩
      obtain ⟨a, b, h1, h2, ea, e1, e2, S⟩ : ∃ a b h1 h2, a = w2.heap.size + 1 ∧ h1 = w.heap.size ∧ h2 = w.heap.size + 1 ∧ Ses w w3 a b (List.replicate 200 0) [(h1, hdC S1 p q y g nn o, 24), (h2, hdC S2 p' q' y' g' nn' o', 24)] := by
        have l1 := K1.out.lt
        have l2 := K2.out.lt
        rw [World.size_alloc] at l2
        refine ⟨_, _, _, _, rfl, rfl, rfl, ⟨_, i3⟩, below_trans B.out b3, ⟨by have := B.out.size; omega, B.out.size⟩, fun r hr => ?_⟩
        rcases List.mem_cons.1 hr with rfl | hr
        · exact ⟨K1.out.keep b3, by simp only []; omega, by simp only []; omega⟩
        · obtain rfl := List.mem_singleton.1 hr
          refine ⟨?_, by simp only []; omega, by simp only []; omega⟩
          have := K2.out.keep b3
          rw [World.size_alloc] at this
          exact this
      rw [← e2, ← e1, ← ea]
      have S := Lib.hid S
      clear e1 e2 ea i3 b3 B K1 K2
      obtain ⟨D, hD⟩ : ∃ D : Nat, D = S1 + 3 := ⟨_, rfl⟩
      have eD : (1 : Int) + ((S1 : Int) + 2) = D := by omega
      have L0 := Lib.hid (show (List.replicate 200 (0 : Int)).length = 200 from List.length_replicate)
      generalize List.replicate 200 (0 : Int) = V0 at *
      have HD := Lib.hid hD
      clear hD
      obtain ⟨c0, c1, c2, c3, c4, c5, c6, fz⟩ := (S.out.blk _ (List.mem_cons_self ..)).1.seven
      go_wp2_with fail
      refine (oWords_any _ _ _ _ _ _ _ _ s0 s1).mono ?_
      rintro e w4 ⟨rfl, b4⟩
      have S := Lib.hid (S.out.keep b4)
      clear b4 c0 c1 c2 c3 c4 c5 c6 fz
      obtain ⟨c0, c1, c2, c3, c4, c5, c6, fz⟩ := (S.out.blk _ (List.mem_cons_self ..)).1.seven
      go_wp2_with fail
      refine (make_yes _ _ _ _ S.out.has (by rw [L0.out]; omega) 1 _ _ _ _ _ _ _ HGO.out ⟨by omega, by rw [L0.out]; omega⟩).mono ?_
      rintro e w5 ⟨rfl, t5⟩
      have S := Lib.hid (S.out.step t5)
      have L1 := Lib.hid ((madeW_len (ws := V0) (at_ := 1) s0 ⟨by omega, by rw [L0.out]; omega⟩ (wordI S1 p q y g nn o)).trans L0.out)
      clear t5 c0 c1 c2 c3 c4 c5 c6 fz
      generalize madeW V0 1 S1 (wordI S1 p q y g nn o) = V1 at *
      obtain ⟨c0, c1, c2, c3, c4, c5, c6, fz⟩ := (S.out.blk _ (List.mem_cons_of_mem _ (List.mem_cons_self ..))).1.seven
      go_wp2_with fail
      refine (make_yes _ _ _ _ S.out.has (by rw [L1.out]; omega) D _ _ _ _ _ _ _ HGO'.out ⟨by omega, by rw [L1.out]; have := HD.out; omega⟩).mono ?_
      rintro e w6 ⟨rfl, t6⟩
      have R : Hid (ApR w w6 a b [(h1, hdC S1 p q y g nn o, 24), (h2, hdC S2 p' q' y' g' nn' o', 24)] xs D S2 (wordI S2 p' q' y' g' nn' o') 0) := Lib.hid ⟨_, S.out.step t6, side_made L1.out (by have := HD.out; omega)⟩
      clear t6 c0 c1 c2 c3 c4 c5 c6 fz S L0 L1
      have W1 := Lib.hid (word_bounds S2 p' q' y' g' nn' o' HGO'.out)
      have W2 := Lib.hid (isHd_word S2 p' q' y' g' nn' o' HGO'.out)
      have W3 := Lib.hid (unV_word S2 p' q' y' g' nn' o' HGO'.out)
      generalize wordI S2 p' q' y' g' nn' o' = W at *
      go_wp2_with fail
      go_loopw [10] (fun s10 wr => ∃ k : Nat, k ≤ n ∧ k ≤ S1 ∧ s10 = .int .i64 k ∧ Hid (ApR w wr a b [(h1, hdC S1 p q y g nn o, 24), (h2, hdC S2 p' q' y' g' nn' o', 24)] xs D S2 W k)) (fun s10 _ => S1 - (intOf s10).toNat)
      case atStart => exact ⟨0, by omega, by omega, rfl, R⟩
      case round =>
        clear R
        obtain ⟨k, kn, ks, rfl, R⟩ := hrel
        obtain ⟨V, S, d⟩ := R.out
        have S := Lib.hid S
        have d := Lib.hid d
        clear R
        obtain ⟨c0, c1, c2, c3, c4, c5, c6, fz⟩ := (S.out.blk _ (List.mem_cons_self ..)).1.seven
        by_cases hlt : k < n ∧ k < S1
        · obtain ⟨l1, l2⟩ := hlt
          obtain ⟨ad, x, rfl, hx, hc⟩ := HR.out.at_ S.out.old l1
          have HX := Lib.hid hx
          clear hx
          go_wp2_with fail
          refine (setField_yes _ _ _ _ S.out.has (by rw [d.out.len]; omega) 1 k x (by omega) (by omega) ⟨by omega, by rw [d.out.len]; omega⟩).mono ?_
          rintro e w7 ⟨rfl, t7⟩
          have R : Hid (ApR w w7 a b [(h1, hdC S1 p q y g nn o, 24), (h2, hdC S2 p' q' y' g' nn' o', 24)] xs D S2 W (k + 1)) := Lib.hid ⟨_, S.out.step t7, by
            rw [show ((1 : Int) + (2 + (k : Int))).toNat = 1 + (2 + k) by omega]
            exact d.out.set HX.out (by have := HD.out; omega) (by have := HD.out; omega)⟩
          clear t7 S d hc c0 c1 c2 c3 c4 c5 c6 fz
          go_wp2
          go_roundw
          case rel => exact ⟨k + 1, by omega, by omega, by go_num, R⟩
          case measure => simp [intOf]; omega
        · have hc : n ≤ k ∨ (k < n ∧ S1 ≤ k) := by omega
          have hmin := Lib.hid (show n ≤ k ∨ S1 ≤ k by omega)
          clear hlt
          rcases hc with z | ⟨z1, z⟩
          all_goals
            have hz := Lib.hid z
            go_wp2_with fail
            refine (head_yes _ _ _ _ S.out.has (by rw [d.out.len]; omega) D W ⟨by omega, by rw [d.out.len]; have := HD.out; omega⟩ (by rw [Int.toNat_natCast]; exact d.out.head) (by have := W1.out; omega) (by have := W1.out; omega) W2.out).mono ?_
            rintro e w7 ⟨he, t7⟩
            rw [W3.out] at he
            subst he
            have S := Lib.hid ((S.out.step t7).box (cs := hdC S2 p' q' y' g' nn' o') (t := 24))
            clear t7 c0 c1 c2 c3 c4 c5 c6 fz
            go_wp2_with fail
            refine (way_yes _ _ _ _ S.out.has (by rw [d.out.len]; omega) D D ⟨by omega, by rw [d.out.len]; have := HD.out; omega⟩ (by rw [show ((D : Int) + 1).toNat = D + 1 by omega]; exact d.out.way)).mono ?_
            rintro e w8 ⟨he, t8⟩
            rw [wrap_small D (by omega) (by have := HD.out; omega)] at he
            subst he
            generalize w7.heap.size = h3 at *
            have R : Hid (ApR w w8 a b [(h3, hdC S2 p' q' y' g' nn' o', 24), (h1, hdC S1 p q y g nn o, 24), (h2, hdC S2 p' q' y' g' nn' o', 24)] xs D S2 W k) := Lib.hid ⟨V, S.out.step t8, d.out⟩
            clear t8 S d
            go_wp2_with fail
            go_loopw [15] (fun s15 wr => ∃ j : Nat, j ≤ S2 ∧ s15 = .int .i64 j ∧ Hid (ApR w wr a b [(h3, hdC S2 p' q' y' g' nn' o', 24), (h1, hdC S1 p q y g nn o, 24), (h2, hdC S2 p' q' y' g' nn' o', 24)] xs D S2 W k)) (fun s15 _ => S2 - (intOf s15).toNat)
            case atStart => exact ⟨0, by omega, rfl, R⟩
            case round =>
              clear R
              obtain ⟨j, js, rfl, R⟩ := hrel
              obtain ⟨V, S, d⟩ := R.out
              have S := Lib.hid S
              have d := Lib.hid d
              clear R
              obtain ⟨c0, c1, c2, c3, c4, c5, c6, fz⟩ := (S.out.blk _ (List.mem_cons_of_mem _ (List.mem_cons_of_mem _ (List.mem_cons_self ..)))).1.seven
              by_cases hj : j < S2
              · go_wp2_with fail
                refine (field_yes _ _ _ _ S.out.has (by rw [d.out.len]; omega) D j 0 (by omega) (by omega) ⟨by omega, by rw [d.out.len]; have := HD.out; omega⟩ (by rw [show ((D : Int) + (2 + (j : Int))).toNat = D + (2 + j) by omega]; exact d.out.zero j hj)).mono ?_
                rintro e w9 ⟨rfl, t9⟩
                have R : Hid (ApR w w9 a b [(h3, hdC S2 p' q' y' g' nn' o', 24), (h1, hdC S1 p q y g nn o, 24), (h2, hdC S2 p' q' y' g' nn' o', 24)] xs D S2 W k) := Lib.hid ⟨V, S.out.step t9, d.out⟩
                clear t9 S d c0 c1 c2 c3 c4 c5 c6 fz
                go_wp2
                go_roundw
                case rel => exact ⟨j + 1, by omega, by go_num, R⟩
                case measure => simp [intOf]; omega
              · have R : Hid (ApR w wr a b [(h3, hdC S2 p' q' y' g' nn' o', 24), (h1, hdC S1 p q y g nn o, 24), (h2, hdC S2 p' q' y' g' nn' o', 24)] xs D S2 W k) := Lib.hid ⟨V, S.out, d.out⟩
                clear S d
                go_wp2_with fail
                clear c0 c1 c2 c3 c4 c5 c6 fz
                go_loopw [18] (fun s18 wr => ∃ i : Nat, i ≤ k ∧ s18 = .int .i64 i ∧ Hid (ApR w wr a b [(h3, hdC S2 p' q' y' g' nn' o', 24), (h1, hdC S1 p q y g nn o, 24), (h2, hdC S2 p' q' y' g' nn' o', 24)] xs D S2 W k)) (fun s18 _ => k - (intOf s18).toNat)
                case atStart => exact ⟨0, by omega, rfl, R⟩
                case round =>
                  clear R
                  obtain ⟨i, is_, rfl, R⟩ := hrel
                  obtain ⟨V, S, d⟩ := R.out
                  have S := Lib.hid S
                  have d := Lib.hid d
                  clear R
                  obtain ⟨c0, c1, c2, c3, c4, c5, c6, fz⟩ := (S.out.blk _ (List.mem_cons_of_mem _ (List.mem_cons_self ..))).1.seven
                  by_cases hi : i < k
                  · obtain ⟨ad, x, rfl, hx, _⟩ := HR.out.at_ S.out.old (show i < n by omega)
                    have HX := Lib.hid hx
                    clear hx
                    go_wp2_with fail
                    refine (field_yes _ _ _ _ S.out.has (by rw [d.out.len]; omega) 1 i x (by omega) (by omega) ⟨by omega, by rw [d.out.len]; omega⟩ (by rw [show ((1 : Int) + (2 + (i : Int))).toNat = 1 + (2 + i) by omega]; exact d.out.full i x hi HX.out)).mono ?_
                    rintro e w9 ⟨rfl, t9⟩
                    have S := Lib.hid (S.out.step t9)
                    clear t9 c0 c1 c2 c3 c4 c5 c6 fz
                    obtain ⟨ad', x', ea, hx', hc⟩ := HR.out.at_ S.out.old (show i < n by omega)
                    cases ea
                    rw [HX.out] at hx'
                    cases hx'
                    have R : Hid (ApR w w9 a b [(h3, hdC S2 p' q' y' g' nn' o', 24), (h1, hdC S1 p q y g nn o, 24), (h2, hdC S2 p' q' y' g' nn' o', 24)] xs D S2 W k) := Lib.hid ⟨V, S.out, d.out⟩
                    clear S d
                    go_wp2
                    go_roundw
                    case rel => exact ⟨i + 1, by omega, by go_num, R⟩
                    case measure => simp [intOf]; omega
                  · obtain rfl : i = k := by omega
                    have hz := hz.out
                    go_wp2_with fail
                    refine (awake_any _).mono ?_
                    rintro e w9 ⟨rfl, b9⟩
                    have S := Lib.hid (S.out.keep b9)
                    clear b9 c0 c1 c2 c3 c4 c5 c6 fz
                    obtain ⟨c0, c1, c2, c3, c4, c5, c6, fz⟩ := (S.out.blk _ (List.mem_cons_of_mem _ (List.mem_cons_of_mem _ (List.mem_cons_self ..)))).1.seven
                    obtain ⟨d0, d1, d2, d3, d4, d5, d6, fd⟩ := (S.out.blk _ (List.mem_cons_self ..)).1.seven
                    go_wp2
                    go_ret
                    exact ⟨rfl, S.out.old⟩
end Go.Proofs.Ythhbamllnacklaa

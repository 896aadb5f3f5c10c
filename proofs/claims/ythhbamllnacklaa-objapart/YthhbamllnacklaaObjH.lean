/- The walk of ObjMakes. -/
import Derived.Test.YthhbamllnacklaaObjF
namespace Go.Proofs.Ythhbamllnacklaa
open Go.RowKit

abbrev hdC (s p q y : Int) (g n o : Bool) : Array Value := #[.int .i64 s, .int .i64 p, .int .i64 q, .int .i64 y, .bool g, .bool n, .bool o]

theorem ses_filled {w w1 : World} {hv : Array Value} {ws : List Int} {g cap : Nat} (h1 : (w.alloc (.cells hv 24)).heap.size + 2 ≤ g) (h2 : Has w1 ((w.alloc (.cells hv 24)).heap.size + 1) (w.alloc (.cells hv 24)).heap.size ws)
    (h3 : Row w1 g cap ws) (h4 : Below (w.alloc (.cells hv 24)).heap.size (w.alloc (.cells hv 24)) w1) :
    ∃ a b cur hb, a = w.heap.size + 1 + 1 ∧ hb = w.heap.size ∧ RowC cur cap ws ∧ w.heap.size < g ∧ Ses w w1 a b ws [(g, cur, 22), (hb, hv, 24)] := by
  obtain ⟨cur, hB, hC⟩ := h3.parts
  rw [World.size_alloc] at h1 h2
  refine ⟨_, _, cur, _, rfl, rfl, hC, by omega, h2, below_alloc_trans _ h4, ⟨by omega, by omega⟩, fun r hr => ?_⟩
  rcases List.mem_cons.1 hr with rfl | hr
  · exact ⟨hB, by simp only []; omega, by simp only []; omega⟩
  · obtain rfl := List.mem_singleton.1 hr
    exact ⟨(Blk.new w _ _).keep h4, by simp only []; omega, by simp only []; omega⟩

theorem madeW_len {ws : List Int} {at_ s : Int} (hs : 0 ≤ s) (hi : Room ws.length at_ s) (x : Int) : (madeW ws at_ s x).length = ws.length := by
  rw [madeW, List.length_set, List.length_set, splice_len ws hs hi]

set_option maxHeartbeats 8000000 in
set_option maxRecDepth 100000 in
theorem objMakes_walk (n seed at_ s p q y : Int) (g nn o : Bool) (n0 : 0 ≤ n) (n1 : n ≤ 255) (x0 : 0 ≤ seed) (x1 : seed ≤ 18446744073709551615) (a0 : -9223372036854775808 ≤ at_) (a1 : at_ ≤ 9223372036854775807) (w : World) :
    Calls Try.prog 3 #[.int .u8 n, .int .u64 seed, .int .i64 at_, hdV s p q y g nn o] w fun e w' => e = .returned (.bool true) ∧ Below w.heap.size w w' := by
  obtain ⟨N, hN⟩ : ∃ N, n % 100 = N := ⟨_, rfl⟩
  have m0 : 0 ≤ N := by omega
  have m1 : N < 100 := by omega
  obtain ⟨i0, hi, hz, hs, hby⟩ := info_parts info_u64
  have HI0 := Lib.hid (And.intro hi (And.intro hz (And.intro hs hby)))
  clear hi hz hs hby
  go_enter Try.func3, Try.ntmps3
  go_wp2_with fail
  rw [hN]
  refine (filled_any N seed m0 m1 x0 (by omega) _).mono ?_
  rintro e w1 ⟨ws, g1, cap1, rfl, hL, hU, h1, h2, h3, h4⟩
  obtain ⟨a, b, cur, hb, ea, eb, RC0, hg1, S0⟩ := ses_filled h1 h2 h3 h4
  have S := Lib.hid S0
  have RC := Lib.hid RC0
  clear S0 RC0
  have G1 := Lib.hid hg1
  have HU := Lib.hid hU
  rw [World.size_alloc, ← ea, ← eb]
  have EB := Lib.hid eb
  clear h1 h2 h3 h4 ea hg1 eb hU hN n0 n1 x0 x1
  obtain rfl : N = ws.length := hL.symm
  have hl : ws.length < 100 := by omega
  clear hL m1
  obtain ⟨c0, c1, c2, c3, c4, c5, c6, fz⟩ := (S.out.blk _ (List.mem_cons_of_mem _ (List.mem_cons_self ..))).1.seven
  cases hgo : goodB s p q y
  · have HGO := Lib.hid hgo
    clear hgo
    go_wp2_with fail
    refine (make_arg _ _ _ _ S.out.has at_ _ _ _ _ _ _ _ HGO.out).mono ?_
    rintro e w2 ⟨rfl, t2⟩
    have S := Lib.hid (S.out.step t2)
    clear t2 c0 c1 c2 c3 c4 c5 c6 fz
    obtain ⟨c0, c1, c2, c3, c4, c5, c6, fz⟩ := (S.out.blk _ (List.mem_cons_of_mem _ (List.mem_cons_self ..))).1.seven
    go_wp2_with fail
    refine (refGood_any _ _ _ _ _ _ _ _).mono ?_
    rintro e w3 ⟨he, b3⟩
    rw [HGO.out] at he
    subst he
    have S := Lib.hid (S.out.keep b3)
    clear b3 c0 c1 c2 c3 c4 c5 c6 fz
    go_wp2_with fail
    refine (awake_any _).mono ?_
    rintro e w4 ⟨rfl, b4⟩
    have S := Lib.hid (S.out.keep b4)
    clear b4
    go_wp2_with fail
    refine (words_any _ _ _ _ S.out.has (by omega)).mono ?_
    rintro e w5 ⟨g2, cap2, rfl, hg2, R2, t5⟩
    have S := Lib.hid (S.out.step t5)
    have R2 := Lib.hid R2
    clear t5 hg2
    go_wp2_with fail
    refine (same_yes g2 cap2 g1 cap1 ws.length ws _ R2.out (RC.out.row (S.out.blk _ (List.mem_cons_self ..)).1) rfl (by omega)).mono ?_
    rintro e w6 ⟨rfl, b6⟩
    have S := Lib.hid (S.out.keep b6)
    clear b6 R2
    go_wp2
    go_ret
    exact ⟨rfl, S.out.old⟩
  · have hs := (goodB_iff ..).1 hgo
    have HGO := Lib.hid hgo
    clear hgo
    obtain ⟨s0, s1, _, _, _, _, _, _⟩ := hs
    by_cases hr : Room ws.length at_ s
    · have hr0 : 0 ≤ at_ := hr.1
      have hr1 : at_ + (s + 2) ≤ ws.length := hr.2
      obtain ⟨A, rfl⟩ := Int.eq_ofNat_of_zero_le hr0
      have HR := Lib.hid hr
      have ML := Lib.hid (madeW_len s0 hr (wordI s p q y g nn o))
      clear hr hr0 a0 a1
      go_wp2_with fail
      refine (make_yes _ _ _ _ S.out.has (by omega) A _ _ _ _ _ _ _ HGO.out HR.out).mono ?_
      rintro e w2 ⟨rfl, t2⟩
      have S := Lib.hid (S.out.step t2)
      clear t2 c0 c1 c2 c3 c4 c5 c6 fz
      obtain ⟨c0, c1, c2, c3, c4, c5, c6, fz⟩ := (S.out.blk _ (List.mem_cons_of_mem _ (List.mem_cons_self ..))).1.seven
      go_wp2_with fail
      refine (refGood_any _ _ _ _ _ _ _ _).mono ?_
      rintro e w3 ⟨he, b3⟩
      rw [HGO.out] at he
      subst he
      have S := Lib.hid (S.out.keep b3)
      clear b3 c0 c1 c2 c3 c4 c5 c6 fz
      have S1 := Lib.hid (S.out.alloc (.cells #[] 22))
      have O1 : Hid ((w3.alloc (.cells #[] 22)).ownsRow w.heap.size 22 1 (.slice (some ⟨w3.heap.size, 0, none⟩) 0 0) 0 []) := Lib.hid ((row_nil w3).own (base := w.heap.size) S.out.old.size)
      have X1 := Lib.hid (RC.out.row (S1.out.blk _ (List.mem_cons_self ..)).1)
      go_wp2_with (first
        | (at_builtin; (refine wpList_append_own_at _ rfl _ _ 26 rfl w.heap.size 22 i0 (.int .u64 0) 1 8 Try.underlying26 HI0.out.1 HI0.out.2.1 HI0.out.2.2.1 HI0.out.2.2.2 rfl (by decide) _ _ _ rfl O1.out ⟨g1, 0, none⟩ ws.length cap1 (vals ws) rfl (by simp [vals]) X1.out.news (vals_one ws) (by unfold maxLen; omega) (by omega) ?c5 ?_))
        | fail)
      case c5 => exact S1.out.old.size
      intro v1 w4 hown hgrow hne hob
      obtain ⟨g2, cap2, rfl, T0⟩ := S.out.copied hown rfl hgrow hne hob
      have T := Lib.hid T0
      clear hown hgrow hne hob T0 S S1 O1 X1
      go_wp2_with fail
      go_loopw [14] (fun s14 wr => ∃ k : Nat, (k : Int) ≤ s + 2 ∧ s14 = .int .i64 k ∧ Hid (Two w wr a b (madeW ws A s (wordI s p q y g nn o)) [(g1, cur, 22), (hb, hdC s p q y g nn o, 24)] g2 cap2 (splice ws A (List.replicate k 0)))) (fun s14 _ => (s + 2 - intOf s14).toNat)
      case atStart => exact ⟨0, by omega, rfl, by rw [List.replicate_zero, splice_none]; exact T⟩
      case round =>
        clear T
        obtain ⟨k, hk, rfl, T⟩ := hrel
        by_cases hlt : (k : Int) < s + 2
        · have hsl := Lib.hid (splice_snoc ws A (List.replicate k 0) 0 (by rw [List.length_replicate]; omega))
          have hlen : (splice ws A (List.replicate k (0 : Int))).length = ws.length := length_splice _ _ _ (by rw [List.length_replicate]; omega)
          have hx := T.out.2.1.at_ (List.getElem?_eq_getElem (l := splice ws A (List.replicate k (0 : Int))) (i := A + k) (by omega))
          have fz := T.out.2.1.frozen (A + k)
          generalize (splice ws A (List.replicate k (0 : Int)))[A + k]'_ = z at hx
          clear hlen
          go_wp2
          go_roundw
          case rel => exact ⟨k + 1, by omega, by go_num, Lib.hid (by
            have t := T.out.set (A + k) 0
            have e := hsl.out
            rw [List.length_replicate] at e
            rw [e, show List.replicate k (0 : Int) ++ [0] = List.replicate (k + 1) 0 from (List.replicate_succ' ..).symm] at t
            exact t)⟩
          case measure => simp [intOf]; omega
        · have hk2 : k = (s + 2).toNat := by omega
          subst hk2
          have MW := Lib.hid (show madeW ws A s (wordI s p q y g nn o) = ((splice ws A (List.replicate (s + 2).toNat 0)).set A (wordI s p q y g nn o)).set (A + 1) A from rfl)
          have hsl : (splice ws A (List.replicate (s + 2).toNat (0 : Int))).length = ws.length := length_splice _ _ _ (by rw [List.length_replicate]; omega)
          have M0 : (madeW ws A s (wordI s p q y g nn o))[((A : Int)).toNat]? = some (wordI s p q y g nn o) := by
            rw [MW.out, Int.toNat_natCast, List.getElem?_set_ne (by omega), List.getElem?_set_self (by omega)]
          have M1 : (madeW ws A s (wordI s p q y g nn o))[((A : Int) + 1).toNat]? = some (A : Int) := by
            rw [MW.out, show ((A : Int) + 1).toNat = A + 1 by omega, List.getElem?_set_self (by rw [List.length_set]; omega)]
          have M0 := Lib.hid M0
          have M1 := Lib.hid M1
          have W1 := Lib.hid (word_bounds s p q y g nn o HGO.out)
          have W2 := Lib.hid (isHd_word s p q y g nn o HGO.out)
          have W3 := Lib.hid (unV_word s p q y g nn o HGO.out)
          obtain ⟨c0, c1, c2, c3, c4, c5, c6, fz⟩ := (T.out.1.blk _ (List.mem_cons_of_mem _ (List.mem_cons_self ..))).1.seven
          go_wp2_with fail
          refine (refWord_any _ _ _ _ _ _ _ _ HGO.out).mono ?_
          rintro e w5 ⟨rfl, b5⟩
          have T := Lib.hid (T.out.keep b5)
          clear b5 c0 c1 c2 c3 c4 c5 c6 fz
          have y0 := T.out.2.1.at_ (List.getElem?_eq_getElem (l := splice ws A (List.replicate (s + 2).toNat (0 : Int))) (i := A) (by omega))
          have y1 := T.out.2.1.at_ (List.getElem?_eq_getElem (l := splice ws A (List.replicate (s + 2).toNat (0 : Int))) (i := A + 1) (by omega))
          have f0 := T.out.2.1.frozen A
          have f1 := T.out.2.1.frozen (A + 1)
          generalize (splice ws A (List.replicate (s + 2).toNat (0 : Int)))[A]'_ = z0 at y0
          generalize (splice ws A (List.replicate (s + 2).toNat (0 : Int)))[A + 1]'_ = z1 at y1
          have T := Lib.hid ((T.out.set A (wordI s p q y g nn o)).set (A + 1) A)
          rw [← MW.out] at T
          generalize madeW ws A s (wordI s p q y g nn o) = M at *
          generalize wordI s p q y g nn o = W at *
          clear MW hsl
          go_wp2_with fail
          refine (head_yes _ _ _ _ T.out.1.has (by rw [ML.out]; omega) A W ⟨by omega, by rw [ML.out]; omega⟩ M0.out (by have := W1.out; omega) (by have := W1.out; omega) W2.out).mono ?_
          rintro e w6 ⟨he, t6⟩
          rw [W3.out] at he
          subst he
          have T := Lib.hid ((T.out.step t6).box (cs := hdC s p q y g nn o) (ty := 24))
          clear t6 y0 y1 f0 f1
          go_wp2_with fail
          refine (way_yes _ _ _ _ T.out.1.has (by rw [ML.out]; omega) A A ⟨by omega, by rw [ML.out]; omega⟩ M1.out).mono ?_
          rintro e w7 ⟨he, t7⟩
          rw [wrap_small A (by omega) (by omega)] at he
          subst he
          have T := Lib.hid (T.out.step t7)
          clear t7
          go_wp2_with fail
          refine (awake_any _).mono ?_
          rintro e w8 ⟨rfl, b8⟩
          have T := Lib.hid (T.out.keep b8)
          clear b8
          go_wp2_with fail
          refine (words_any _ _ _ _ T.out.1.has (by rw [ML.out]; omega)).mono ?_
          rintro e w9 ⟨g3, cap3, rfl, hg3, R3, t9⟩
          have T := Lib.hid (T.out.step t9)
          have R3 := Lib.hid R3
          clear t9 hg3
          rw [ML.out]
          go_wp2_with fail
          refine (same_yes g3 cap3 g2 cap2 ws.length M _ R3.out T.out.2.1 ML.out.symm (by omega)).mono ?_
          rintro e w10 ⟨rfl, b10⟩
          have T := Lib.hid (T.out.keep b10)
          clear b10 R3
          obtain ⟨c0, c1, c2, c3, c4, c5, c6, fz⟩ := (T.out.1.blk _ (List.mem_cons_of_mem _ (List.mem_cons_of_mem _ (List.mem_cons_self ..)))).1.seven
          obtain ⟨d0, d1, d2, d3, d4, d5, d6, fd⟩ := (T.out.1.blk _ (List.mem_cons_self ..)).1.seven
          go_wp2_with fail
          refine (oWords_any _ _ _ _ _ _ _ _ s0 s1).mono ?_
          rintro e w11 ⟨rfl, b11⟩
          have T := Lib.hid (T.out.keep b11)
          clear b11 c0 c1 c2 c3 c4 c5 c6 fz d0 d1 d2 d3 d4 d5 d6 fd
          go_wp2
          go_ret
          exact ⟨rfl, T.out.1.old⟩
    · have HR := Lib.hid hr
      clear hr
      go_wp2_with fail
      refine (make_no _ _ _ _ S.out.has (by omega) at_ _ _ _ _ _ _ _ HGO.out HR.out).mono ?_
      rintro e w2 ⟨rfl, t2⟩
      have S := Lib.hid (S.out.step t2)
      clear t2 c0 c1 c2 c3 c4 c5 c6 fz
      obtain ⟨c0, c1, c2, c3, c4, c5, c6, fz⟩ := (S.out.blk _ (List.mem_cons_of_mem _ (List.mem_cons_self ..))).1.seven
      go_wp2_with fail
      refine (refGood_any _ _ _ _ _ _ _ _).mono ?_
      rintro e w3 ⟨he, b3⟩
      rw [HGO.out] at he
      subst he
      have S := Lib.hid (S.out.keep b3)
      clear b3 c0 c1 c2 c3 c4 c5 c6 fz
      have hc : at_ < 0 ∨ (¬ at_ < 0 ∧ (ws.length : Int) < at_) ∨ (¬ at_ < 0 ∧ ¬ (ws.length : Int) < at_ ∧ (ws.length : Int) - at_ < s + 2) := by
        have := HR.out
        unfold Room at this
        omega
      rcases hc with z | ⟨z0, z⟩ | ⟨z0, z1, z⟩
      all_goals
        go_wp2_with fail
        refine (awake_any _).mono ?_
        rintro e w4 ⟨rfl, b4⟩
        have S := Lib.hid (S.out.keep b4)
        clear b4
        go_wp2_with fail
        refine (words_any _ _ _ _ S.out.has (by omega)).mono ?_
        rintro e w5 ⟨g2, cap2, rfl, hg2, R2, t5⟩
        have S := Lib.hid (S.out.step t5)
        have R2 := Lib.hid R2
        clear t5 hg2
        go_wp2_with fail
        refine (same_yes g2 cap2 g1 cap1 ws.length ws _ R2.out (RC.out.row (S.out.blk _ (List.mem_cons_self ..)).1) rfl (by omega)).mono ?_
        rintro e w6 ⟨rfl, b6⟩
        have S := Lib.hid (S.out.keep b6)
        clear b6 R2
        go_wp2
        go_ret
        exact ⟨rfl, S.out.old⟩
end Go.Proofs.Ythhbamllnacklaa

/- The walk of ObjMoves. -/
import Derived.Test.YthhbamllnacklaaObjH
namespace Go.Proofs.Ythhbamllnacklaa
open Go.RowKit

theorem movedW_len {ws : List Int} {fr to s : Int} (hs : 0 ≤ s) (hi : Room ws.length fr s) (hj : Room ws.length to s) (x : Int) : (movedW ws fr to s x).length = ws.length := by
  rw [movedW, List.length_set, List.length_set, List.length_set, splice_len2 ws hs hi hj]

theorem take_len (ws : List Int) (F k : Nat) (h : F + k ≤ ws.length) : ((ws.drop F).take k).length = k := by
  rw [List.length_take, List.length_drop]; omega

theorem take_more (ws : List Int) (F k : Nat) (x : Int) (h : ws[F + k]? = some x) : (ws.drop F).take k ++ [x] = (ws.drop F).take (k + 1) := by
  rw [take_snoc (c := x) (by rw [List.getElem?_drop]; exact h)]

set_option maxHeartbeats 8000000 in
set_option maxRecDepth 100000 in
theorem objMoves_walk (n seed fr to s p q y : Int) (g nn o : Bool) (n0 : 0 ≤ n) (n1 : n ≤ 255) (x0 : 0 ≤ seed) (x1 : seed ≤ 18446744073709551615) (a0 : -9223372036854775808 ≤ fr) (a1 : fr ≤ 9223372036854775807) (b0 : -9223372036854775808 ≤ to) (b1 : to ≤ 9223372036854775807) (w : World) :
    Calls Try.prog 5 #[.int .u8 n, .int .u64 seed, .int .i64 fr, .int .i64 to, hdV s p q y g nn o] w fun e w' => e = .returned (.bool true) ∧ Below w.heap.size w w' := by
  obtain ⟨N, hN⟩ : ∃ N, n % 100 = N := ⟨_, rfl⟩
  have m0 : 0 ≤ N := by omega
  have m1 : N < 100 := by omega
  obtain ⟨i0, hi, hz, hs, hby⟩ := info_parts info_u64
  have HI0 := Lib.hid (And.intro hi (And.intro hz (And.intro hs hby)))
  clear hi hz hs hby
  go_enter Try.func5, Try.ntmps5
  go_wp2_with fail
  rw [hN]
  refine (filled_any N seed m0 m1 x0 (by omega) _).mono ?_
  rintro e w1 ⟨ws, g1, cap1, rfl, hL, hU, h1, h2, h3, h4⟩
  obtain ⟨a, b, cur, hb, ea, eb, RC0, hg1, S0⟩ := ses_filled h1 h2 h3 h4
  have S := Lib.hid S0
  have RC := Lib.hid RC0
  clear S0 RC0
  rw [World.size_alloc, ← ea, ← eb]
  clear h1 h2 h3 h4 ea hg1 eb hU hN n0 n1 x0 x1
  obtain rfl : N = ws.length := hL.symm
  have hl : ws.length < 100 := by omega
  clear hL m1
  obtain ⟨c0, c1, c2, c3, c4, c5, c6, fz⟩ := (S.out.blk _ (List.mem_cons_of_mem _ (List.mem_cons_self ..))).1.seven
  cases hgo : goodB s p q y
  · have HGO := Lib.hid hgo
    clear hgo
    go_wp2_with fail
    refine (move_arg _ _ _ _ S.out.has fr to _ _ _ _ _ _ _ HGO.out).mono ?_
    rintro e w2 ⟨rfl, t2⟩
    have S := Lib.hid (S.out.step t2)
    clear t2 c0 c1 c2 c3 c4 c5 c6 fz
    obtain ⟨c0, c1, c2, c3, c4, c5, c6, fz⟩ := (S.out.blk _ (List.mem_cons_of_mem _ (List.mem_cons_self ..))).1.seven
    go_wp2_with fail
    refine (refGood_any _ _ _ _ _ _ _ _).mono ?_
    rintro e w3 ⟨he, b3⟩
    rw [HGO.out] at he
    subst he
    have S := Lib.hid (S.out.keep b3)
    clear b3 c0 c1 c2 c3 c4 c5 c6 fz
    go_wp2_with fail
    refine (awake_any _).mono ?_
    rintro e w4 ⟨rfl, b4⟩
    have S := Lib.hid (S.out.keep b4)
    clear b4
    go_wp2_with fail
    refine (words_any _ _ _ _ S.out.has (by omega)).mono ?_
    rintro e w5 ⟨g2, cap2, rfl, hg2, R2, t5⟩
    have S := Lib.hid (S.out.step t5)
    have R2 := Lib.hid R2
    clear t5 hg2
    go_wp2_with fail
    refine (same_yes g2 cap2 g1 cap1 ws.length ws _ R2.out (RC.out.row (S.out.blk _ (List.mem_cons_self ..)).1) rfl (by omega)).mono ?_
    rintro e w6 ⟨rfl, b6⟩
    have S := Lib.hid (S.out.keep b6)
    clear b6 R2
    go_wp2
    go_ret
    exact ⟨rfl, S.out.old⟩
  · have hs := (goodB_iff ..).1 hgo
    have HGO := Lib.hid hgo
    clear hgo
    obtain ⟨s0, s1, _, _, _, _, _, _⟩ := hs
    by_cases hr : Room ws.length fr s ∧ Room ws.length to s
    · obtain ⟨hr, hq⟩ := hr
      have hr0 : 0 ≤ fr := hr.1
      have hr1 : fr + (s + 2) ≤ ws.length := hr.2
      have hq0 : 0 ≤ to := hq.1
      have hq1 : to + (s + 2) ≤ ws.length := hq.2
      obtain ⟨F, rfl⟩ := Int.eq_ofNat_of_zero_le hr0
      obtain ⟨D, rfl⟩ := Int.eq_ofNat_of_zero_le hq0
      have HR := Lib.hid hr
      have HQ := Lib.hid hq
      have ML := Lib.hid (movedW_len s0 hr hq (wordI s p q y g nn o))
      clear hr hr0 a0 a1 hq hq0 b0 b1
      go_wp2_with fail
      refine (move_yes _ _ _ _ S.out.has (by omega) F D _ _ _ _ _ _ _ HGO.out HR.out HQ.out).mono ?_
      rintro e w2 ⟨rfl, t2⟩
      have S := Lib.hid (S.out.step t2)
      clear t2 c0 c1 c2 c3 c4 c5 c6 fz
      obtain ⟨c0, c1, c2, c3, c4, c5, c6, fz⟩ := (S.out.blk _ (List.mem_cons_of_mem _ (List.mem_cons_self ..))).1.seven
      go_wp2_with fail
      refine (refGood_any _ _ _ _ _ _ _ _).mono ?_
      rintro e w3 ⟨he, b3⟩
      rw [HGO.out] at he
      subst he
      have S := Lib.hid (S.out.keep b3)
      clear b3 c0 c1 c2 c3 c4 c5 c6 fz
      obtain ⟨c0, c1, c2, c3, c4, c5, c6, fz⟩ := (S.out.blk _ (List.mem_cons_of_mem _ (List.mem_cons_self ..))).1.seven
      by_cases ho : (F : Int) < D + (s + 2) ∧ (D : Int) < F + (s + 2)
      · obtain ⟨o1, o2⟩ := ho
        go_wp2_with fail
        refine (awake_any _).mono ?_
        rintro e w4 ⟨rfl, b4⟩
        have S := Lib.hid (S.out.keep b4)
        clear b4
        go_wp2
        go_ret
        exact ⟨rfl, S.out.old⟩
      · have hc : (D : Int) + (s + 2) ≤ F ∨ ((F : Int) < D + (s + 2) ∧ (F : Int) + (s + 2) ≤ D) := by omega
        clear ho
        rcases hc with z | ⟨z0, z⟩
        all_goals
          have S1 := Lib.hid (S.out.alloc (.cells #[] 22))
          have O1 : Hid ((w3.alloc (.cells #[] 22)).ownsRow w.heap.size 22 1 (.slice (some ⟨w3.heap.size, 0, none⟩) 0 0) 0 []) := Lib.hid ((row_nil w3).own (base := w.heap.size) S.out.old.size)
          have X1 := Lib.hid (RC.out.row (S1.out.blk _ (List.mem_cons_self ..)).1)
          go_wp2_with (first
            | (at_builtin; (refine wpList_append_own_at _ rfl _ _ 26 rfl w.heap.size 22 i0 (.int .u64 0) 1 8 Try.underlying26 HI0.out.1 HI0.out.2.1 HI0.out.2.2.1 HI0.out.2.2.2 rfl (by decide) _ _ _ rfl O1.out ⟨g1, 0, none⟩ ws.length cap1 (vals ws) rfl (by simp [vals]) X1.out.news (vals_one ws) (by unfold maxLen; omega) (by omega) ?c5 ?_))
            | fail)
          case c5 => first | exact S1.out.old.size | (have := S1.out.old.size; simpa using this)
          intro v1 w4 hown hgrow hne hob
          obtain ⟨g2, cap2, rfl, T0⟩ := S.out.copied hown rfl hgrow hne hob
          have T := Lib.hid T0
          clear hown hgrow hne hob T0 S S1 O1 X1 c0 c1 c2 c3 c4 c5 c6 fz
          go_wp2_with fail
          go_loopw [16] (fun s16 wr => ∃ k : Nat, (k : Int) ≤ s + 2 ∧ s16 = .int .i64 k ∧ Hid (Two w wr a b (movedW ws F D s (wordI s p q y g nn o)) [(g1, cur, 22), (hb, hdC s p q y g nn o, 24)] g2 cap2 (splice ws D ((ws.drop F).take k)))) (fun s16 _ => (s + 2 - intOf s16).toNat)
          case atStart => exact ⟨0, by omega, rfl, by rw [List.take_zero, splice_none]; exact T⟩
          case round =>
            clear T
            obtain ⟨k, hk, rfl, T⟩ := hrel
            by_cases hlt : (k : Int) < s + 2
            · obtain ⟨x, hx⟩ : ∃ x, ws[F + k]? = some x := ⟨_, List.getElem?_eq_getElem (by omega)⟩
              have tl := take_len ws F k (by omega)
              have tm := Lib.hid (take_more ws F k x hx)
              have hsl := Lib.hid (splice_snoc ws D ((ws.drop F).take k) x (by rw [tl]; omega))
              have hlen : (splice ws D ((ws.drop F).take k)).length = ws.length := length_splice _ _ _ (by rw [tl]; omega)
              have hq := T.out.2.1.at_ (List.getElem?_eq_getElem (l := splice ws D ((ws.drop F).take k)) (i := D + k) (by omega))
              have fz := T.out.2.1.frozen (D + k)
              have hp := (RC.out.row (T.out.1.blk _ (List.mem_cons_self ..)).1).at_ hx
              have hne := T.out.2.2.2.2.2 _ (List.mem_cons_self ..)
              simp only [] at hne
              generalize (splice ws D ((ws.drop F).take k))[D + k]'_ = z at hq
              have TL := Lib.hid tl
              clear hlen tl hx
              go_wp2
              go_roundw
              case rel => exact ⟨k + 1, by omega, by go_num, Lib.hid (by
                have t := T.out.set (D + k) x
                have e := hsl.out
                rw [TL.out] at e
                rw [e, tm.out] at t
                exact t)⟩
              case measure => simp [intOf]; omega
            · have hk2 : k = (s + 2).toNat := by omega
              subst hk2
              have MW := Lib.hid (show movedW ws F D s (wordI s p q y g nn o) = (((splice ws D ((ws.drop F).take (s + 2).toNat)).set D (wordI s p q y g nn o)).set (D + 1) D).set (F + 1) D from rfl)
              have hsl : (splice ws D ((ws.drop F).take (s + 2).toNat)).length = ws.length := length_splice _ _ _ (by rw [take_len ws F _ (by omega)]; omega)
              obtain ⟨c0, c1, c2, c3, c4, c5, c6, fz⟩ := (T.out.1.blk _ (List.mem_cons_of_mem _ (List.mem_cons_self ..))).1.seven
              go_wp2_with fail
              refine (refWord_any _ _ _ _ _ _ _ _ HGO.out).mono ?_
              rintro e w5 ⟨rfl, b5⟩
              have T := Lib.hid (T.out.keep b5)
              clear b5 c0 c1 c2 c3 c4 c5 c6 fz
              have y0 := T.out.2.1.at_ (List.getElem?_eq_getElem (l := splice ws D ((ws.drop F).take (s + 2).toNat)) (i := D) (by omega))
              have y1 := T.out.2.1.at_ (List.getElem?_eq_getElem (l := splice ws D ((ws.drop F).take (s + 2).toNat)) (i := D + 1) (by omega))
              have y2 := T.out.2.1.at_ (List.getElem?_eq_getElem (l := splice ws D ((ws.drop F).take (s + 2).toNat)) (i := F + 1) (by omega))
              have f0 := T.out.2.1.frozen D
              have f1 := T.out.2.1.frozen (D + 1)
              have f2 := T.out.2.1.frozen (F + 1)
              generalize (splice ws D ((ws.drop F).take (s + 2).toNat))[D]'_ = z0 at y0
              generalize (splice ws D ((ws.drop F).take (s + 2).toNat))[D + 1]'_ = z1 at y1
              generalize (splice ws D ((ws.drop F).take (s + 2).toNat))[F + 1]'_ = z2 at y2
              have n1 : D ≠ F + 1 := by omega
              have n2 : D + 1 ≠ F + 1 := by omega
              have T := Lib.hid (((T.out.set D (wordI s p q y g nn o)).set (D + 1) D).set (F + 1) D)
              rw [← MW.out] at T
              generalize movedW ws F D s (wordI s p q y g nn o) = M at *
              generalize wordI s p q y g nn o = W at *
              clear MW hsl
              go_wp2_with fail
              refine (awake_any _).mono ?_
              rintro e w8 ⟨rfl, b8⟩
              have T := Lib.hid (T.out.keep b8)
              clear b8 y0 y1 y2 f0 f1 f2
              go_wp2_with fail
              refine (words_any _ _ _ _ T.out.1.has (by rw [ML.out]; omega)).mono ?_
              rintro e w9 ⟨g3, cap3, rfl, hg3, R3, t9⟩
              have T := Lib.hid (T.out.step t9)
              have R3 := Lib.hid R3
              clear t9 hg3
              rw [ML.out]
              go_wp2_with fail
              refine (same_yes g3 cap3 g2 cap2 ws.length M _ R3.out T.out.2.1 ML.out.symm (by omega)).mono ?_
              rintro e w10 ⟨rfl, b10⟩
              have T := Lib.hid (T.out.keep b10)
              clear b10 R3
              go_wp2
              go_ret
              exact ⟨rfl, T.out.1.old⟩
    · have HR := Lib.hid hr
      clear hr
      go_wp2_with fail
      refine (move_no _ _ _ _ S.out.has (by omega) fr to _ _ _ _ _ _ _ HGO.out HR.out).mono ?_
      rintro e w2 ⟨rfl, t2⟩
      have S := Lib.hid (S.out.step t2)
      clear t2 c0 c1 c2 c3 c4 c5 c6 fz
      obtain ⟨c0, c1, c2, c3, c4, c5, c6, fz⟩ := (S.out.blk _ (List.mem_cons_of_mem _ (List.mem_cons_self ..))).1.seven
      go_wp2_with fail
      refine (refGood_any _ _ _ _ _ _ _ _).mono ?_
      rintro e w3 ⟨he, b3⟩
      rw [HGO.out] at he
      subst he
      have S := Lib.hid (S.out.keep b3)
      clear b3 c0 c1 c2 c3 c4 c5 c6 fz
      obtain ⟨c0, c1, c2, c3, c4, c5, c6, fz⟩ := (S.out.blk _ (List.mem_cons_of_mem _ (List.mem_cons_self ..))).1.seven
      have hc : fr < 0 ∨ (¬ fr < 0 ∧ to < 0) ∨ (¬ fr < 0 ∧ ¬ to < 0 ∧ (ws.length : Int) < fr) ∨ (¬ fr < 0 ∧ ¬ to < 0 ∧ ¬ (ws.length : Int) < fr ∧ (ws.length : Int) < to) ∨
          (¬ fr < 0 ∧ ¬ to < 0 ∧ ¬ (ws.length : Int) < fr ∧ ¬ (ws.length : Int) < to ∧ (ws.length : Int) - fr < s + 2) ∨ (¬ fr < 0 ∧ ¬ to < 0 ∧ ¬ (ws.length : Int) < fr ∧ ¬ (ws.length : Int) < to ∧ ¬ (ws.length : Int) - fr < s + 2 ∧ (ws.length : Int) - to < s + 2) := by
        have := HR.out
        unfold Room at this
        omega
      rcases hc with z | ⟨z0, z⟩ | ⟨z0, z1, z⟩ | ⟨z0, z1, z2, z⟩ | ⟨z0, z1, z2, z3, z⟩ | ⟨z0, z1, z2, z3, z4, z⟩
      all_goals
        go_wp2_with fail
        refine (awake_any _).mono ?_
        rintro e w4 ⟨rfl, b4⟩
        have S := Lib.hid (S.out.keep b4)
        clear b4
        go_wp2_with fail
        refine (words_any _ _ _ _ S.out.has (by omega)).mono ?_
        rintro e w5 ⟨g2, cap2, rfl, hg2, R2, t5⟩
        have S := Lib.hid (S.out.step t5)
        have R2 := Lib.hid R2
        clear t5 hg2
        go_wp2_with fail
        refine (same_yes g2 cap2 g1 cap1 ws.length ws _ R2.out (RC.out.row (S.out.blk _ (List.mem_cons_self ..)).1) rfl (by omega)).mono ?_
        rintro e w6 ⟨rfl, b6⟩
        have S := Lib.hid (S.out.keep b6)
        clear b6 R2
        go_wp2
        go_ret
        exact ⟨rfl, S.out.old⟩
end Go.Proofs.Ythhbamllnacklaa

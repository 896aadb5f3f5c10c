/- The walk of ObjHeads. -/
import Derived.Test.YthhbamllnacklaaObjF
namespace Go.Proofs.Ythhbamllnacklaa
open Go.RowKit

theorem isHd_parts {x : Int} (h : isHd x = true) : goodB (sS x) (sP x) (sA x) (sY x) = true ∧ wordI (sS x) (sP x) (sA x) (sY x) (sG x) (sN x) (sO x) = x := by
  simpa [isHd] using h

set_option maxHeartbeats 8000000 in
set_option maxRecDepth 100000 in
theorem objHeads_walk (n at_ x s p q y : Int) (g nn o : Bool) (n0 : 0 ≤ n) (n1 : n ≤ 255) (a0 : -9223372036854775808 ≤ at_) (a1 : at_ ≤ 9223372036854775807) (x0 : 0 ≤ x) (x1 : x ≤ 18446744073709551615) (w : World) :
    Calls Try.prog 6 #[.int .u8 n, .int .i64 at_, .int .u64 x, hdV s p q y g nn o] w fun e w' => e = .returned (.bool true) ∧ Below w.heap.size w w' := by
  obtain ⟨N, hN⟩ : ∃ N, n % 100 = N := ⟨_, rfl⟩
  have m0 : 0 ≤ N := by omega
  have m1 : N < 100 := by omega
  have hcl := Lib.hid (show (clampN N : Int) = N by unfold clampN; omega)
  have hS0 : ∀ w1, IsAr w1 (w.heap.size + 2) (w.heap.size + 1) (List.replicate (clampN N) 0) 0 → Below (w.alloc (.cells #[.int .i64 s, .int .i64 p, .int .i64 q, .int .i64 y, .bool g, .bool nn, .bool o] 24)).heap.size (w.alloc (.cells #[.int .i64 s, .int .i64 p, .int .i64 q, .int .i64 y, .bool g, .bool nn, .bool o] 24)) w1 →
      ∃ a b, a = w.heap.size + 2 ∧ Ses w w1 a b (List.replicate (clampN N) 0) [(w.heap.size, #[.int .i64 s, .int .i64 p, .int .i64 q, .int .i64 y, .bool g, .bool nn, .bool o], 24)] := by
    intro w1 i1 b1
    refine ⟨_, _, rfl, ⟨⟨_, i1⟩, below_alloc_trans _ b1, ⟨by omega, by omega⟩, fun r hr => ?_⟩⟩
    obtain rfl := List.mem_singleton.1 hr
    exact ⟨(Blk.new w _ _).keep b1, by simp, by simp⟩
  have HS0 := Lib.hid hS0
  clear hS0
  by_cases ht : 0 ≤ at_ ∧ at_ < N
  · obtain ⟨t0, t1⟩ := ht
    go_enter Try.func6, Try.ntmps6
    go_wp2_with fail
    refine (new_any _ _).mono ?_
    rintro e w1 ⟨rfl, i1, b1⟩
    obtain ⟨a, b, ea, S⟩ := HS0.out w1 (by simpa using i1) b1
    have S := Lib.hid S
    have hlen : ((List.replicate (clampN N) (0 : Int)).length : Int) = N := by rw [List.length_replicate]; exact hcl.out
    generalize List.replicate (clampN N) (0 : Int) = ws at S hlen
    have HL := Lib.hid hlen
    have ep : arP (w.heap.size + 1 + 1) = arP a := by rw [ea]
    clear i1 b1 hlen HS0
    rw [World.size_alloc, ep]
    clear ea ep
    generalize w.heap.size = hb at S
    go_wp2_with fail
    obtain ⟨c, hc⟩ := S.out.has
    refine (store_at _ _ _ _ _ hc (by have := HL.out; omega) at_ x t0 (by have := HL.out; omega)).mono ?_
    rintro e w2 ⟨rfl, t2⟩
    have S := Lib.hid (S.out.step t2.now)
    clear t2 hc
    have HX := Lib.hid (show (ws.set at_.toNat x)[at_.toNat]? = some x by rw [List.getElem?_set_self (by have := HL.out; omega)])
    have HI := Lib.hid (show InW (ws.set at_.toNat x).length at_ 0 from ⟨t0, by rw [List.length_set]; have := HL.out; omega⟩)
    have HL2 := Lib.hid (show (ws.set at_.toNat x).length ≤ 1048576 by rw [List.length_set]; have := HL.out; omega)
    generalize ws.set at_.toNat x = vs at *
    clear HL
    cases hh : isHd x
    · have HH := Lib.hid hh
      clear hh
      go_wp2_with fail
      refine (head_bad _ _ _ _ S.out.has HL2.out at_ x HI.out HX.out x0 (by omega) HH.out).mono ?_
      rintro e w3 ⟨rfl, t3⟩
      have S := Lib.hid ((S.out.step t3).box (cs := #[.int .i64 0, .int .i64 0, .int .i64 0, .int .i64 0, .bool false, .bool false, .bool false]) (t := 24))
      clear t3
      obtain ⟨d0, d1, d2, d3, d4, d5, d6, fd⟩ := (S.out.blk _ (List.mem_cons_self ..)).1.seven
      obtain ⟨c0, c1, c2, c3, c4, c5, c6, fz⟩ := (S.out.blk _ (List.mem_cons_of_mem _ (List.mem_cons_self ..))).1.seven
      cases hgo : goodB s p q y
      · have HGO := Lib.hid hgo
        clear hgo
        go_wp2_with fail
        refine (setHead_arg _ _ _ _ S.out.has at_ _ _ _ _ _ _ _ HGO.out).mono ?_
        rintro e w5 ⟨rfl, t5⟩
        have S := Lib.hid (S.out.step t5)
        clear t5 c0 c1 c2 c3 c4 c5 c6 fz
        obtain ⟨c, hc⟩ := S.out.has
        have HC := Lib.hid hc
        clear hc
        go_wp2_with fail
        refine (load_at _ _ _ _ _ HC.out HL2.out at_ x t0 HX.out).mono ?_
        rintro e w6 ⟨rfl, t6⟩
        have S := Lib.hid (S.out.step t6.now)
        clear t6 HC
        go_wp2_with fail
        refine (awake_any _).mono ?_
        rintro e w7 ⟨rfl, b7⟩
        have S := Lib.hid (S.out.keep b7)
        clear b7
        obtain ⟨c0, c1, c2, c3, c4, c5, c6, fz⟩ := (S.out.blk _ (List.mem_cons_of_mem _ (List.mem_cons_self ..))).1.seven
        go_wp2_with fail
        refine (refGood_any _ _ _ _ _ _ _ _).mono ?_
        rintro e w8 ⟨he, b8⟩
        rw [HGO.out] at he
        subst he
        have S := Lib.hid (S.out.keep b8)
        clear b8 c0 c1 c2 c3 c4 c5 c6 fz
        obtain ⟨c0, c1, c2, c3, c4, c5, c6, fz⟩ := (S.out.blk _ (List.mem_cons_of_mem _ (List.mem_cons_self ..))).1.seven
        go_wp2_with fail
        refine (refGood_any _ _ _ _ _ _ _ _).mono ?_
        rintro e w9 ⟨he, b9⟩
        rw [HGO.out] at he
        subst he
        have S := Lib.hid (S.out.keep b9)
        clear b9 c0 c1 c2 c3 c4 c5 c6 fz
        go_wp2
        go_ret
        exact ⟨rfl, S.out.old⟩
      · have HGO := Lib.hid hgo
        clear hgo
        go_wp2_with fail
        refine (setHead_yes _ _ _ _ S.out.has HL2.out at_ _ _ _ _ _ _ _ HGO.out HI.out).mono ?_
        rintro e w5 ⟨rfl, t5⟩
        have S := Lib.hid (S.out.step t5)
        clear t5 c0 c1 c2 c3 c4 c5 c6 fz
        obtain ⟨W, hW⟩ : ∃ W, wordI s p q y g nn o = W := ⟨_, rfl⟩
        have HY := Lib.hid (show (vs.set at_.toNat (wordI s p q y g nn o))[at_.toNat]? = some W by rw [List.getElem?_set_self (by have := HI.out.2; omega), hW])
        have HWW := Lib.hid hW
        clear hW
        obtain ⟨c, hc⟩ := S.out.has
        have HC := Lib.hid hc
        clear hc
        go_wp2_with fail
        refine (load_at _ _ _ _ _ HC.out (by rw [List.length_set]; exact HL2.out) at_ W t0 HY.out).mono ?_
        rintro e w6 ⟨rfl, t6⟩
        have S := Lib.hid (S.out.step t6.now)
        clear t6 HC
        go_wp2_with fail
        refine (awake_any _).mono ?_
        rintro e w7 ⟨rfl, b7⟩
        have S := Lib.hid (S.out.keep b7)
        clear b7
        obtain ⟨c0, c1, c2, c3, c4, c5, c6, fz⟩ := (S.out.blk _ (List.mem_cons_of_mem _ (List.mem_cons_self ..))).1.seven
        go_wp2_with fail
        refine (refGood_any _ _ _ _ _ _ _ _).mono ?_
        rintro e w8 ⟨he, b8⟩
        rw [HGO.out] at he
        subst he
        have S := Lib.hid (S.out.keep b8)
        clear b8 c0 c1 c2 c3 c4 c5 c6 fz
        obtain ⟨c0, c1, c2, c3, c4, c5, c6, fz⟩ := (S.out.blk _ (List.mem_cons_of_mem _ (List.mem_cons_self ..))).1.seven
        go_wp2_with fail
        refine (refWord_any _ _ _ _ _ _ _ _ HGO.out).mono ?_
        rintro e w9 ⟨he, b9⟩
        rw [HWW.out] at he
        subst he
        have S := Lib.hid (S.out.keep b9)
        clear b9 c0 c1 c2 c3 c4 c5 c6 fz
        go_wp2
        go_ret
        exact ⟨rfl, S.out.old⟩
    · obtain ⟨hg, hw⟩ := isHd_parts hh
      have HH := Lib.hid hh
      have HG := Lib.hid hg
      have HW := Lib.hid hw
      clear hh hg hw
      go_wp2_with fail
      refine (head_yes _ _ _ _ S.out.has HL2.out at_ x HI.out HX.out x0 (by omega) HH.out).mono ?_
      rintro e w3 ⟨rfl, t3⟩
      have S := Lib.hid ((S.out.step t3).box (cs := #[.int .i64 (sS x), .int .i64 (sP x), .int .i64 (sA x), .int .i64 (sY x), .bool (sG x), .bool (sN x), .bool (sO x)]) (t := 24))
      clear t3
      obtain ⟨d0, d1, d2, d3, d4, d5, d6, fd⟩ := (S.out.blk _ (List.mem_cons_self ..)).1.seven
      obtain ⟨c0, c1, c2, c3, c4, c5, c6, fz⟩ := (S.out.blk _ (List.mem_cons_of_mem _ (List.mem_cons_self ..))).1.seven
      go_wp2_with fail
      refine (refWord_any _ _ _ _ _ _ _ _ HG.out).mono ?_
      rintro e w4 ⟨he, b4⟩
      rw [HW.out] at he
      subst he
      have S := Lib.hid (S.out.keep b4)
      clear b4 d0 d1 d2 d3 d4 d5 d6 fd c0 c1 c2 c3 c4 c5 c6 fz
      obtain ⟨c0, c1, c2, c3, c4, c5, c6, fz⟩ := (S.out.blk _ (List.mem_cons_of_mem _ (List.mem_cons_self ..))).1.seven
      cases hgo : goodB s p q y
      · have HGO := Lib.hid hgo
        clear hgo
        go_wp2_with fail
        refine (setHead_arg _ _ _ _ S.out.has at_ _ _ _ _ _ _ _ HGO.out).mono ?_
        rintro e w5 ⟨rfl, t5⟩
        have S := Lib.hid (S.out.step t5)
        clear t5 c0 c1 c2 c3 c4 c5 c6 fz
        obtain ⟨c, hc⟩ := S.out.has
        have HC := Lib.hid hc
        clear hc
        go_wp2_with fail
        refine (load_at _ _ _ _ _ HC.out HL2.out at_ x t0 HX.out).mono ?_
        rintro e w6 ⟨rfl, t6⟩
        have S := Lib.hid (S.out.step t6.now)
        clear t6 HC
        go_wp2_with fail
        refine (awake_any _).mono ?_
        rintro e w7 ⟨rfl, b7⟩
        have S := Lib.hid (S.out.keep b7)
        clear b7
        obtain ⟨c0, c1, c2, c3, c4, c5, c6, fz⟩ := (S.out.blk _ (List.mem_cons_of_mem _ (List.mem_cons_self ..))).1.seven
        go_wp2_with fail
        refine (refGood_any _ _ _ _ _ _ _ _).mono ?_
        rintro e w8 ⟨he, b8⟩
        rw [HGO.out] at he
        subst he
        have S := Lib.hid (S.out.keep b8)
        clear b8 c0 c1 c2 c3 c4 c5 c6 fz
        obtain ⟨c0, c1, c2, c3, c4, c5, c6, fz⟩ := (S.out.blk _ (List.mem_cons_of_mem _ (List.mem_cons_self ..))).1.seven
        go_wp2_with fail
        refine (refGood_any _ _ _ _ _ _ _ _).mono ?_
        rintro e w9 ⟨he, b9⟩
        rw [HGO.out] at he
        subst he
        have S := Lib.hid (S.out.keep b9)
        clear b9 c0 c1 c2 c3 c4 c5 c6 fz
        go_wp2
        go_ret
        exact ⟨rfl, S.out.old⟩
      · have HGO := Lib.hid hgo
        clear hgo
        go_wp2_with fail
        refine (setHead_yes _ _ _ _ S.out.has HL2.out at_ _ _ _ _ _ _ _ HGO.out HI.out).mono ?_
        rintro e w5 ⟨rfl, t5⟩
        have S := Lib.hid (S.out.step t5)
        clear t5 c0 c1 c2 c3 c4 c5 c6 fz
        obtain ⟨W, hW⟩ : ∃ W, wordI s p q y g nn o = W := ⟨_, rfl⟩
        have HY := Lib.hid (show (vs.set at_.toNat (wordI s p q y g nn o))[at_.toNat]? = some W by rw [List.getElem?_set_self (by have := HI.out.2; omega), hW])
        have HWW := Lib.hid hW
        clear hW
        obtain ⟨c, hc⟩ := S.out.has
        have HC := Lib.hid hc
        clear hc
        go_wp2_with fail
        refine (load_at _ _ _ _ _ HC.out (by rw [List.length_set]; exact HL2.out) at_ W t0 HY.out).mono ?_
        rintro e w6 ⟨rfl, t6⟩
        have S := Lib.hid (S.out.step t6.now)
        clear t6 HC
        go_wp2_with fail
        refine (awake_any _).mono ?_
        rintro e w7 ⟨rfl, b7⟩
        have S := Lib.hid (S.out.keep b7)
        clear b7
        obtain ⟨c0, c1, c2, c3, c4, c5, c6, fz⟩ := (S.out.blk _ (List.mem_cons_of_mem _ (List.mem_cons_self ..))).1.seven
        go_wp2_with fail
        refine (refGood_any _ _ _ _ _ _ _ _).mono ?_
        rintro e w8 ⟨he, b8⟩
        rw [HGO.out] at he
        subst he
        have S := Lib.hid (S.out.keep b8)
        clear b8 c0 c1 c2 c3 c4 c5 c6 fz
        obtain ⟨c0, c1, c2, c3, c4, c5, c6, fz⟩ := (S.out.blk _ (List.mem_cons_of_mem _ (List.mem_cons_self ..))).1.seven
        go_wp2_with fail
        refine (refWord_any _ _ _ _ _ _ _ _ HGO.out).mono ?_
        rintro e w9 ⟨he, b9⟩
        rw [HWW.out] at he
        subst he
        have S := Lib.hid (S.out.keep b9)
        clear b9 c0 c1 c2 c3 c4 c5 c6 fz
        go_wp2
        go_ret
        exact ⟨rfl, S.out.old⟩
  · have HT := Lib.hid ht
    clear ht
    by_cases t0 : 0 ≤ at_
    · have td : decide (at_ < N) = false := decide_eq_false (fun h => HT.out ⟨t0, h⟩)
      go_enter Try.func6, Try.ntmps6
      go_wp2_with fail
      refine (new_any _ _).mono ?_
      rintro e w1 ⟨rfl, i1, b1⟩
      obtain ⟨a, b, ea, S⟩ := HS0.out w1 (by simpa using i1) b1
      have S := Lib.hid S
      have hlen : ((List.replicate (clampN N) (0 : Int)).length : Int) = N := by rw [List.length_replicate]; exact hcl.out
      generalize List.replicate (clampN N) (0 : Int) = ws at S hlen
      have HL := Lib.hid hlen
      have ep : arP (w.heap.size + 1 + 1) = arP a := by rw [ea]
      clear i1 b1 hlen HS0
      rw [World.size_alloc, ep]
      clear ea ep
      generalize w.heap.size = hb at S
      have HNH := Lib.hid (show hasB ws.length at_ 1 = false by rw [hasB_no]; have := HL.out; have := HT.out; omega)
      have HI := Lib.hid (show ¬ InW ws.length at_ 0 by unfold InW; have := HL.out; have := HT.out; omega)
      have HL2 := Lib.hid (show ws.length ≤ 1048576 by have := HL.out; omega)
      obtain ⟨c, hc⟩ := S.out.has
      have HC := Lib.hid hc
      clear hc
      go_wp2_with fail
      refine (store_no _ _ _ _ at_ x _ HC.out HL2.out a1 HNH.out).mono ?_
      rintro e w2 ⟨rfl, rfl⟩
      clear HC
      go_wp2_with fail
      refine (head_no _ _ _ _ S.out.has HL2.out at_ HI.out).mono ?_
      rintro e w3 ⟨rfl, t3⟩
      have S := Lib.hid ((S.out.step t3).box (cs := #[.int .i64 0, .int .i64 0, .int .i64 0, .int .i64 0, .bool false, .bool false, .bool false]) (t := 24))
      clear t3
      obtain ⟨c0, c1, c2, c3, c4, c5, c6, fz⟩ := (S.out.blk _ (List.mem_cons_of_mem _ (List.mem_cons_self ..))).1.seven
      cases hgo : goodB s p q y
      · have HGO := Lib.hid hgo
        clear hgo
        go_wp2_with fail
        refine (setHead_arg _ _ _ _ S.out.has at_ _ _ _ _ _ _ _ HGO.out).mono ?_
        rintro e w5 ⟨rfl, t5⟩
        have S := Lib.hid (S.out.step t5)
        clear t5 c0 c1 c2 c3 c4 c5 c6 fz
        go_wp2_with fail
        refine (awake_any _).mono ?_
        rintro e w7 ⟨rfl, b7⟩
        have S := Lib.hid (S.out.keep b7)
        clear b7
        obtain ⟨c0, c1, c2, c3, c4, c5, c6, fz⟩ := (S.out.blk _ (List.mem_cons_of_mem _ (List.mem_cons_self ..))).1.seven
        go_wp2_with fail
        refine (refGood_any _ _ _ _ _ _ _ _).mono ?_
        rintro e w8 ⟨he, b8⟩
        rw [HGO.out] at he
        subst he
        have S := Lib.hid (S.out.keep b8)
        clear b8 c0 c1 c2 c3 c4 c5 c6 fz
        go_wp2
        go_ret
        exact ⟨rfl, S.out.old⟩
      · have HGO := Lib.hid hgo
        clear hgo
        go_wp2_with fail
        refine (setHead_no _ _ _ _ S.out.has HL2.out at_ _ _ _ _ _ _ _ HGO.out HI.out).mono ?_
        rintro e w5 ⟨rfl, t5⟩
        have S := Lib.hid (S.out.step t5)
        clear t5 c0 c1 c2 c3 c4 c5 c6 fz
        go_wp2_with fail
        refine (awake_any _).mono ?_
        rintro e w7 ⟨rfl, b7⟩
        have S := Lib.hid (S.out.keep b7)
        clear b7
        obtain ⟨c0, c1, c2, c3, c4, c5, c6, fz⟩ := (S.out.blk _ (List.mem_cons_of_mem _ (List.mem_cons_self ..))).1.seven
        go_wp2_with fail
        refine (refGood_any _ _ _ _ _ _ _ _).mono ?_
        rintro e w8 ⟨he, b8⟩
        rw [HGO.out] at he
        subst he
        have S := Lib.hid (S.out.keep b8)
        clear b8 c0 c1 c2 c3 c4 c5 c6 fz
        go_wp2
        go_ret
        exact ⟨rfl, S.out.old⟩
    · go_enter Try.func6, Try.ntmps6
      go_wp2_with fail
      refine (new_any _ _).mono ?_
      rintro e w1 ⟨rfl, i1, b1⟩
      obtain ⟨a, b, ea, S⟩ := HS0.out w1 (by simpa using i1) b1
      have S := Lib.hid S
      have hlen : ((List.replicate (clampN N) (0 : Int)).length : Int) = N := by rw [List.length_replicate]; exact hcl.out
      generalize List.replicate (clampN N) (0 : Int) = ws at S hlen
      have HL := Lib.hid hlen
      have ep : arP (w.heap.size + 1 + 1) = arP a := by rw [ea]
      clear i1 b1 hlen HS0
      rw [World.size_alloc, ep]
      clear ea ep
      generalize w.heap.size = hb at S
      have HNH := Lib.hid (show hasB ws.length at_ 1 = false by rw [hasB_no]; have := HL.out; have := HT.out; omega)
      have HI := Lib.hid (show ¬ InW ws.length at_ 0 by unfold InW; have := HL.out; have := HT.out; omega)
      have HL2 := Lib.hid (show ws.length ≤ 1048576 by have := HL.out; omega)
      obtain ⟨c, hc⟩ := S.out.has
      have HC := Lib.hid hc
      clear hc
      go_wp2_with fail
      refine (store_no _ _ _ _ at_ x _ HC.out HL2.out a1 HNH.out).mono ?_
      rintro e w2 ⟨rfl, rfl⟩
      clear HC
      go_wp2_with fail
      refine (head_no _ _ _ _ S.out.has HL2.out at_ HI.out).mono ?_
      rintro e w3 ⟨rfl, t3⟩
      have S := Lib.hid ((S.out.step t3).box (cs := #[.int .i64 0, .int .i64 0, .int .i64 0, .int .i64 0, .bool false, .bool false, .bool false]) (t := 24))
      clear t3
      obtain ⟨c0, c1, c2, c3, c4, c5, c6, fz⟩ := (S.out.blk _ (List.mem_cons_of_mem _ (List.mem_cons_self ..))).1.seven
      cases hgo : goodB s p q y
      · have HGO := Lib.hid hgo
        clear hgo
        go_wp2_with fail
        refine (setHead_arg _ _ _ _ S.out.has at_ _ _ _ _ _ _ _ HGO.out).mono ?_
        rintro e w5 ⟨rfl, t5⟩
        have S := Lib.hid (S.out.step t5)
        clear t5 c0 c1 c2 c3 c4 c5 c6 fz
        go_wp2_with fail
        refine (awake_any _).mono ?_
        rintro e w7 ⟨rfl, b7⟩
        have S := Lib.hid (S.out.keep b7)
        clear b7
        obtain ⟨c0, c1, c2, c3, c4, c5, c6, fz⟩ := (S.out.blk _ (List.mem_cons_of_mem _ (List.mem_cons_self ..))).1.seven
        go_wp2_with fail
        refine (refGood_any _ _ _ _ _ _ _ _).mono ?_
        rintro e w8 ⟨he, b8⟩
        rw [HGO.out] at he
        subst he
        have S := Lib.hid (S.out.keep b8)
        clear b8 c0 c1 c2 c3 c4 c5 c6 fz
        go_wp2
        go_ret
        exact ⟨rfl, S.out.old⟩
      · have HGO := Lib.hid hgo
        clear hgo
        go_wp2_with fail
        refine (setHead_no _ _ _ _ S.out.has HL2.out at_ _ _ _ _ _ _ _ HGO.out HI.out).mono ?_
        rintro e w5 ⟨rfl, t5⟩
        have S := Lib.hid (S.out.step t5)
        clear t5 c0 c1 c2 c3 c4 c5 c6 fz
        go_wp2_with fail
        refine (awake_any _).mono ?_
        rintro e w7 ⟨rfl, b7⟩
        have S := Lib.hid (S.out.keep b7)
        clear b7
        obtain ⟨c0, c1, c2, c3, c4, c5, c6, fz⟩ := (S.out.blk _ (List.mem_cons_of_mem _ (List.mem_cons_self ..))).1.seven
        go_wp2_with fail
        refine (refGood_any _ _ _ _ _ _ _ _).mono ?_
        rintro e w8 ⟨he, b8⟩
        rw [HGO.out] at he
        subst he
        have S := Lib.hid (S.out.keep b8)
        clear b8 c0 c1 c2 c3 c4 c5 c6 fz
        go_wp2
        go_ret
        exact ⟨rfl, S.out.old⟩
end Go.Proofs.Ythhbamllnacklaa

/- The program's graph: a node is made, in either order of its two rows. -/
import Derived.Test.YtjjjeeffllelaaaGgD
namespace Go.Proofs.Ytjjjeeffllelaaa
open Go.RowKit

abbrev rwP (n : Nat) : Obj := .cells (ptVs [] (List.replicate n 0)).toArray 66
abbrev rwU (n : Nat) : Obj := .cells (wordsU (List.replicate n 0)).toArray 28
abbrev bxP (p s m n : Nat) : Obj := .cells (pdB p s m n) 68

/-- Both rows and the node, in either order of the rows. -/
theorem mkP_ps (w : World) (m n : Nat) {W : World} (e : (((w.alloc (rwP m)).alloc (rwU n)).alloc (bxP w.heap.size (w.heap.size + 1) m n)).drew = W) :
    Below w.heap.size w W ∧ Blk W w.heap.size (ptVs [] (List.replicate m 0)).toArray 66 ∧ Blk W (w.heap.size + 1) (wordsU (List.replicate n 0)).toArray 28 ∧ Blk W (w.heap.size + 1 + 1) (pdB w.heap.size (w.heap.size + 1) m n) 68 := by
  subst e
  have s1 : (w.alloc (rwP m)).heap.size = w.heap.size + 1 := by simp
  have s2 : ((w.alloc (rwP m)).alloc (rwU n)).heap.size = w.heap.size + 1 + 1 := by simp
  have b1 : Below w.heap.size w (w.alloc (rwP m)) := (Below.refl _ _).alloc (Nat.le_refl _) _
  have b2 := b1.alloc (by simp) (rwU n)
  have b3 := b2.alloc (by rw [s2]; omega) (bxP w.heap.size (w.heap.size + 1) m n)
  have k2 := Blk.new (w.alloc (rwP m)) (wordsU (List.replicate n 0)).toArray 28
  have k3 := Blk.new ((w.alloc (rwP m)).alloc (rwU n)) (pdB w.heap.size (w.heap.size + 1) m n) 68
  rw [s1] at k2
  rw [s2] at k3
  exact ⟨below_trans b3 (below_drew _), (((Blk.new w _ _).alloc _).alloc _).drew, (k2.alloc _).drew, k3.drew⟩
theorem mkP_sp (w : World) (m n : Nat) {W : World} (e : (((w.alloc (rwU n)).alloc (rwP m)).alloc (bxP (w.heap.size + 1) w.heap.size m n)).drew = W) :
    Below w.heap.size w W ∧ Blk W (w.heap.size + 1) (ptVs [] (List.replicate m 0)).toArray 66 ∧ Blk W w.heap.size (wordsU (List.replicate n 0)).toArray 28 ∧ Blk W (w.heap.size + 1 + 1) (pdB (w.heap.size + 1) w.heap.size m n) 68 := by
  subst e
  have s1 : (w.alloc (rwU n)).heap.size = w.heap.size + 1 := by simp
  have s2 : ((w.alloc (rwU n)).alloc (rwP m)).heap.size = w.heap.size + 1 + 1 := by simp
  have b1 : Below w.heap.size w (w.alloc (rwU n)) := (Below.refl _ _).alloc (Nat.le_refl _) _
  have b2 := b1.alloc (by simp) (rwP m)
  have b3 := b2.alloc (by rw [s2]; omega) (bxP (w.heap.size + 1) w.heap.size m n)
  have k2 := Blk.new (w.alloc (rwU n)) (ptVs [] (List.replicate m 0)).toArray 66
  have k3 := Blk.new ((w.alloc (rwU n)).alloc (rwP m)) (pdB (w.heap.size + 1) w.heap.size m n) 68
  rw [s1] at k2
  rw [s2] at k3
  exact ⟨below_trans b3 (below_drew _), (k2.alloc _).drew, (((Blk.new w _ _).alloc _).alloc _).drew, k3.drew⟩

section
variable (w : World) (g : Nat) (S : Nat → Prop) (G : Gr) (a b c v : Int)

set_option maxRecDepth 100000 in
set_option maxHeartbeats 8000000 in
theorem pgMake_yes (r : Pg w g S G) (hh : G.has a = true) (hb0 : 0 ≤ b) (hc0 : 0 ≤ c) (hb1 : b ≤ G.lg) (hc1 : c ≤ G.lg - b) :
    Calls Try.prog 19 #[gP g, .int .i64 a, .int .i64 b, .int .i64 c] w fun e w' => ChP w g S G 1 a b c v e w' := by
  obtain ⟨hb, nd, hi, eN, rfl⟩ := id r
  rcases hi.has_ a with ⟨e, h⟩ | ⟨i, x, rfl, e, hl, hx, hv, x0, x1⟩
  · rw [e] at hh; cases hh
  · have H := Lib.hid (hd_yes hi hx)
    obtain ⟨c0, c1⟩ := hi.two
    have l0 := hi.lg0
    have l1 := hi.lg1
    have gl := hi.blk.lt
    obtain ⟨m, rfl⟩ : ∃ m : Nat, b = m := ⟨b.toNat, by omega⟩
    obtain ⟨n, rfl⟩ : ∃ n : Nat, c = n := ⟨c.toNat, by omega⟩
    have m64 : m ≤ 64 := by omega
    have n64 : n ≤ 64 := by omega
    have nl : G.ns.length = nd.length := by rw [eN, List.length_map]
    have ec : G.change 1 i m n v = (0, { G with ns := G.ns ++ [(List.replicate m 0, List.replicate n 0)], hs := G.hs.set i (nd.length + 1) }) := by
      unfold Gr.change
      rw [if_pos rfl, if_pos hh, if_neg (by omega), nl, Int.toNat_natCast, Int.toNat_natCast, Int.toNat_natCast]
    have HO := Lib.hid (fun (W : World) (p s q : Nat) (f : Below w.heap.size w W) (hp : Blk W p (ptVs [] (List.replicate m 0)).toArray 66) (hs_ : Blk W s (wordsU (List.replicate n 0)).toArray 28) (hq : Blk W q (pdB p s m n) 68)
        (p0 : w.heap.size ≤ p) (s0 : w.heap.size ≤ s) (q0 : w.heap.size ≤ q) => (show Calls Try.prog 24 #[gP g, .int .i64 i, gP q] W fun e w' => ChP w g (pOwn g hb nd) G 1 i m n v e w' from by
      refine (hold_yes (hi.keep f) hl (some ⟨q, 0, none⟩)).mono ?_
      rintro e' w' ⟨rfl, rfl⟩
      obtain ⟨h1, mv⟩ := hi.add f hp hs_ hq p0 s0 q0 m64 n64 i
      unfold ChP
      rw [ec]
      exact ⟨rfl, _, ⟨hb, _, h1, by rw [eN, List.map_append]; rfl, rfl⟩, mv⟩))
    have HA := Lib.hid (HO.out _ _ _ _ (mkP_ps w m n rfl).1 (mkP_ps w m n rfl).2.1 (mkP_ps w m n rfl).2.2.1 (mkP_ps w m n rfl).2.2.2 (by omega) (by omega) (by omega))
    have HB := Lib.hid (HO.out _ _ _ _ (mkP_sp w m n rfl).1 (mkP_sp w m n rfl).2.1 (mkP_sp w m n rfl).2.2.1 (mkP_sp w m n rfl).2.2.2 (by omega) (by omega) (by omega))
    clear HO
    have hm1 := fun W => run_make_pt m m rfl m64 W
    have hm2 := fun W => rgMakeU n n64 W
    clear hi e r eN hx hv x0 x1 hh nl ec
    generalize hL : G.lg = L at *
    clear hL
    generalize G.hs.length = N at *
    unfold gP ptV rwP rwU bxP pdB at *
    have d0 : decide ((m : Int) < 0) = false := decide_eq_false (by omega)
    have d1 : decide ((n : Int) < 0) = false := decide_eq_false (by omega)
    have d2 : decide ((m : Int) > L - (n : Int)) = false := decide_eq_false (by omega)
    have d3 : decide (L - (n : Int) < (m : Int)) = false := decide_eq_false (by omega)
    have wl : IntKind.i64.wrap (L - (n : Int)) = L - (n : Int) := IntWalk.i64_in _ (by omega)
    go_enter Try.func19, Try.ntmps19
    go_wp2_with fail
    refine H.out.mono ?_
    rintro e w1 ⟨rfl, rfl⟩
    go_wp2_with fail
    clear c0 c1 d0 d1 d2 d3 wl H
    go_region_with (go_at_call 24; (first | refine HA.out.mono ?_ | refine HB.out.mono ?_); rintro e w2 ⟨rfl, h2⟩; have K2 := Lib.hid h2; clear h2)
    all_goals
      go_wp2
      go_ret
      exact ⟨rfl, K2.out⟩
end
end Go.Proofs.Ytjjjeeffllelaaa

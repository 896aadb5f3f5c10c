/- The program's New, and all calls of none; a set made since some world, with blocks beside it. -/
import Derived.Test.YtfjojpfknjdjiaaRemB
namespace Go.Proofs.Ytfjojpfknjdjiaa
open Go.RowKit

section
variable (w : World)

set_option maxHeartbeats 2000000 in
theorem space_any (f n : Int) :
    Calls Try.prog 15 #[.int .i64 f, .int .i64 n] w fun e w' => ∃ X Y, e = .returned (.tuple #[.int .i64 X, .int .i64 Y]) ∧ (∀ x, (X ≤ x ∧ x < Y) ↔ (cutI f 0 1048576 ≤ x ∧ x < cutI f 0 1048576 + cutI n 0 1048576)) ∧ Below w.heap.size w w' := by
  have HN := Lib.hid (cNew_any f n 1048576 w)
  have iN := cutI_in (n := n) (l := 0) (m := 1048576) (by omega)
  go_enter Try.func15, Try.ntmps15
  go_wp2_with fail
  refine HN.out.mono ?_
  rintro e w1 ⟨b, mb, rfl, g1, g2, ⟨N, hN, tb⟩, b1⟩
  have ec : cutI 1048576 1 1048576 = 1048576 := by decide
  rw [ec] at hN tb
  have B := Lib.hid b1
  have HT := Lib.hid tb
  clear b1 tb HN ec
  unfold tbP
  by_cases hz : cutI n 0 1048576 = 0
  · have e0 : N = 0 := by rw [hz] at hN; omega
    subst e0
    have HP := Lib.hid (cPart_no b mb _ _ _ _ _ 0 HT.out (.inr (by simp)))
    have HZ := Lib.hid hz
    clear HT hz hN
    go_wp2_with fail
    refine HP.out.mono ?_
    rintro e w2 ⟨rfl, rfl⟩
    clear HP
    go_wp2
    go_ret2
    exact ⟨_, _, rfl, fun x => by rw [HZ.out]; omega, B.out⟩
  · have e1 : N = 1 := by omega
    subst e1
    have HP := Lib.hid (cPart_yes b mb _ _ _ _ _ 0 HT.out (by omega) (by simp))
    have HE : Hid (endI (cutI f 0 1048576) (cutI n 0 1048576) 1048576 0 = cutI f 0 1048576 + cutI n 0 1048576) := Lib.hid (by unfold endI; split <;> omega)
    clear HT hz hN
    go_wp2_with fail
    refine HP.out.mono ?_
    rintro e w2 ⟨rfl, b2⟩
    have B2 := Lib.hid (below_trans B.out b2)
    clear HP b2 B
    go_wp2
    go_ret2
    exact ⟨_, _, rfl, fun x => by rw [HE.out] <;> omega, B2.out⟩

set_option maxHeartbeats 2000000 in
theorem maker_any (f n c m : Int) :
    Calls Try.prog 16 #[.int .i64 f, .int .i64 n, .int .i64 c, .int .i64 m] w fun e w' => e = .returned (fnV (w.heap.size + 3) w.heap.size (w.heap.size + 1) (w.heap.size + 2)) ∧ Caps w' (w.heap.size + 3) w.heap.size (w.heap.size + 1) (w.heap.size + 2) m f n c ∧ Below w.heap.size w w' := by
  have hmf : ∀ (fn : Fn) (first cap : Array Value) (w : World), (Instr.makeFunc fn first cap).run Try.prog w = .ok (.func fn first cap) w := fun _ _ _ _ => rfl
  have HC := Lib.hid (show Caps ((((w.alloc (.cells #[.int .i64 f] 3)).alloc (.cells #[.int .i64 n] 3)).alloc (.cells #[.int .i64 c] 3)).alloc (.cells #[.int .i64 m] 3)) (w.heap.size + 3) w.heap.size (w.heap.size + 1) (w.heap.size + 2) m f n c from
    ⟨by simpa using Blk.new (((w.alloc (.cells #[.int .i64 f] 3)).alloc (.cells #[.int .i64 n] 3)).alloc (.cells #[.int .i64 c] 3)) #[.int .i64 m] 3,
     (((Blk.new w #[.int .i64 f] 3).alloc _).alloc _).alloc _,
     by simpa using ((Blk.new (w.alloc (.cells #[.int .i64 f] 3)) #[.int .i64 n] 3).alloc (.cells #[.int .i64 c] 3)).alloc (.cells #[.int .i64 m] 3),
     by simpa using (Blk.new ((w.alloc (.cells #[.int .i64 f] 3)).alloc (.cells #[.int .i64 n] 3)) #[.int .i64 c] 3).alloc (.cells #[.int .i64 m] 3)⟩)
  go_enter Try.func16, Try.ntmps16
  go_wp2
  go_ret
  exact ⟨rfl, HC.out, ((((Below.refl _ _).alloc (Nat.le_refl _) _).alloc (by simp) _).alloc (by simp; omega) _).alloc (by simp; omega) _⟩

set_option maxHeartbeats 4000000 in
theorem set_new (f n c m : Int) :
    Calls Try.prog 8 #[.int .i64 f, .int .i64 n, .int .i64 c, .int .i64 m] w fun e w' => ∃ s p, e = .returned (ptr s) ∧
      IsSet w' s p (cutI m 0 1048576) (cutI f 0 1048576) (cutI n 0 1048576) (cutI c 1 1048576) [] (List.replicate (nmI (cutI n 0 1048576) (cutI c 1 1048576)) false) [] (List.replicate (nmI (cutI n 0 1048576) (cutI c 1 1048576)) false) ∧ Below w.heap.size w w' ∧ ∀ k, p.own s k → w.heap.size ≤ k := by
  have HS := Lib.hid (space_any w f n)
  go_enter Try.func8, Try.ntmps8
  go_wp2_with fail
  refine HS.out.mono ?_
  rintro e w1 ⟨X, Y, rfl, hin, b1⟩
  have IN := Lib.hid hin
  have B1 := Lib.hid b1
  clear HS hin b1
  go_wp2_with fail
  refine (maker_any w1 f n c m).mono ?_
  rintro e w2 ⟨rfl, cp, b2⟩
  obtain ⟨k0, e0⟩ : ∃ k, w1.heap.size + 3 = k := ⟨_, rfl⟩
  obtain ⟨k1, e1⟩ : ∃ k, w1.heap.size = k := ⟨_, rfl⟩
  obtain ⟨k2, e2⟩ : ∃ k, w1.heap.size + 1 = k := ⟨_, rfl⟩
  obtain ⟨k3, e3⟩ : ∃ k, w1.heap.size + 2 = k := ⟨_, rfl⟩
  have LK : Hid (w.heap.size ≤ k0 ∧ w.heap.size ≤ k1 ∧ w.heap.size ≤ k2 ∧ w.heap.size ≤ k3) := Lib.hid (by have := B1.out.size; omega)
  rw [e0, e2, e3] at cp ⊢
  rw [e1] at cp ⊢
  have CP := Lib.hid cp
  have L2 := Lib.hid (And.intro cp.b0.lt (And.intro cp.b1.lt (And.intro cp.b2.lt cp.b3.lt)))
  have B2 := Lib.hid (below_trans B1.out b2)
  clear cp b2 B1 e0 e1 e2 e3
  unfold fnV ptr
  go_wp2_with fail
  refine (sd_make _ _ _ _ _ _ _ _ _ CP.out).mono ?_
  rintro e w3 ⟨u1, t1, rfl, f1, b3⟩
  have CP := Lib.hid (CP.out.keep b3)
  have F1 := Lib.hid f1
  have B3 := Lib.hid b3
  clear f1 b3
  unfold sdV bfP tbP
  go_wp2_with fail
  refine (sd_make _ _ _ _ _ _ _ _ _ CP.out).mono ?_
  rintro e w4 ⟨u2, t2, rfl, f2, b4⟩
  have CP := Lib.hid (CP.out.keep b4)
  have F2 := Lib.hid f2
  have B4 := Lib.hid b4
  clear f2 b4
  unfold sdV bfP tbP
  go_wp2
  go_ret
  have s2 := B2.out.size
  have s3 := B3.out.size
  have s4 := B4.out.size
  have ba : Below w4.heap.size w4 (w4.alloc (.cells #[.int .i64 X, .int .i64 Y, fnV k0 k1 k2 k3, bfP u1, tbP t1, bfP u2, tbP t2] 54)) := (Below.refl _ _).alloc (Nat.le_refl _) _
  have lk := LK.out
  have l0 := CP.out.b0.lt
  have l1 := CP.out.b1.lt
  have l2 := CP.out.b2.lt
  have l3 := CP.out.b3.lt
  have g1 : Fresh w2 w3 u1 t1 m f n c := F1.out
  have g2 : Fresh w3 w4 u2 t2 m f n c := F2.out
  unfold Fresh at g1 g2
  refine ⟨w4.heap.size, { X := X, Y := Y, m := m, f := f, n := n, c := c, k0 := k0, k1 := k1, k2 := k2, k3 := k3, b1 := u1, t1 := t1, b2 := u2, t2 := t2, S1 := fun k => w2.heap.size ≤ k ∧ k < w3.heap.size, S2 := fun k => w3.heap.size ≤ k ∧ k < w4.heap.size }, rfl, ⟨Blk.new _ _ _, CP.out.keep ba, rfl, rfl, rfl, rfl, IN.out, ?_, ?_, ?_, ?_, ?_, ?_⟩, ?_, ?_⟩
  · exact (g1.keep B4.out).keep ba
  · exact g2.keep ba
  · rintro k ⟨_, h1⟩ ⟨h2, _⟩
    omega
  · have e2 := L2.out
    rintro k (⟨h1, h2⟩ | ⟨h1, h2⟩)
    · exact ⟨fun z => by omega, fun z => by simp only at z; omega, fun z => by simp only at z; omega, fun z => by simp only at z; omega, fun z => by simp only at z; omega⟩
    · exact ⟨fun z => by omega, fun z => by simp only at z; omega, fun z => by simp only at z; omega, fun z => by simp only at z; omega, fun z => by simp only at z; omega⟩
  · intro x hx; cases hx
  · intro x hx; cases hx
  · exact below_trans (below_trans (below_trans B2.out B3.out) B4.out) ba
  · rintro k (e | e | e | e | e | ⟨e, _⟩ | ⟨e, _⟩)
    · omega
    · simp only at e; omega
    · simp only at e; omega
    · simp only at e; omega
    · simp only at e; omega
    · omega
    · omega
end
end Go.Proofs.Ytfjojpfknjdjiaa

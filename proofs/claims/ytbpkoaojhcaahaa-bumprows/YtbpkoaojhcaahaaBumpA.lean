/- Two halves in memory; contracts of the program's nearest, New, filled, other, has. -/
import Derived.Test.YtbpkoaojhcaahaaFrm
import Derived.Test.YtbpkoaojhcaahaaCutN
import Derived.Deep.QuietTactic
import Derived.BigQuiet
import Derived.BigRegion
import Derived.IntWalk
namespace Go.Proofs.Ytbpkoaojhcaahaa
open Go.RowKit

/-- The cells of two halves of W words from F on: n says which is filled, u is used of that one, v of the other one. -/
def bpL (W F : Int) (n : Bool) (u v : Int) : Array Value :=
  match n with
  | false => #[.int .i64 W, .int .i64 F, .int .i64 u, .int .i64 (F + W), .int .i64 v, .int .i64 0]
  | true => #[.int .i64 W, .int .i64 F, .int .i64 v, .int .i64 (F + W), .int .i64 u, .int .i64 1]

structure IsBp (w : World) (b : Nat) (W F : Int) (n : Bool) (u v : Int) : Prop where
  blk : Blk w b (bpL W F n u v) 47
  w0 : 0 ≤ W
  w1 : W ≤ 1048576
  f0 : 0 ≤ F
  f1 : F ≤ 1048576
  u0 : 0 ≤ u
  u1 : u ≤ W
  v0 : 0 ≤ v
  v1 : v ≤ W

abbrev bpP (b : Nat) : Value := .pointer (some ⟨b, 0, none⟩)

/-- Where a half begins. -/
def hAt (W F : Int) (n : Bool) : Int := if n then F + W else F

section
variable {w w' : World} {b : Nat} {W F u v : Int} {n : Bool}
theorem IsBp.lt (h : IsBp w b W F n u v) : b < w.heap.size := h.blk.lt
theorem IsBp.keep (h : IsBp w b W F n u v) (f : Below w.heap.size w w') : IsBp w' b W F n u v := { h with blk := h.blk.keep f }
theorem IsBp.frm {S : Nat → Prop} (h : IsBp w b W F n u v) (f : Frm S w w') (hb : ¬ S b) : IsBp w' b W F n u v := { h with blk := h.blk.frm f hb }
theorem IsBp.alloc (h : IsBp w b W F n u v) (o : Obj) : IsBp (w.alloc o) b W F n u v := { h with blk := h.blk.alloc o }
theorem Blk.six {t : TypeId} {v0 v1 v2 v3 v4 v5 : Value} (h : Blk w b #[v0, v1, v2, v3, v4, v5] t) :
    w.cell? ⟨b, 0, none⟩ = some v0 ∧ w.cell? ⟨b, 1, none⟩ = some v1 ∧ w.cell? ⟨b, 2, none⟩ = some v2 ∧ w.cell? ⟨b, 3, none⟩ = some v3 ∧ w.cell? ⟨b, 4, none⟩ = some v4 ∧ w.cell? ⟨b, 5, none⟩ = some v5 ∧
    (∀ i, w.frozen? ⟨b, i, none⟩ = false) := ⟨h.cell 0, h.cell 1, h.cell 2, h.cell 3, h.cell 4, h.cell 5, h.frozen⟩
end

theorem below_drewN (w : World) (m : Nat) : Below w.heap.size w (w.drewN m) := ⟨rfl, rfl, rfl, Nat.le_refl _, fun _ _ => rfl⟩
theorem below_drew (w : World) : Below w.heap.size w w.drew := ⟨rfl, rfl, rfl, Nat.le_refl _, fun _ _ => rfl⟩

set_option maxHeartbeats 1000000 in
theorem bnearest_any (n : Int) (w : World) :
    Calls Try.prog 20 #[.int .i64 n] w fun e w' => e = .returned (.int .i64 (cutI n 0 1048576)) ∧ w = w' := by
  by_cases h0 : n < 0
  · have E := Lib.hid (show cutI n 0 1048576 = 0 from if_pos h0)
    go_enter Try.func20, Try.ntmps20
    go_wp2
    go_ret
    refine ⟨?_, rfl⟩
    rw [E.out]
    congr 2
    repeat' split
    all_goals omega
  · by_cases h1 : 1048576 < n
    · have E := Lib.hid (show cutI n 0 1048576 = 1048576 from by rw [cutI, if_neg h0, if_pos h1])
      go_enter Try.func20, Try.ntmps20
      go_wp2
      go_ret
      refine ⟨?_, rfl⟩
      rw [E.out]
      congr 2
      repeat' split
      all_goals omega
    · have E := Lib.hid (show cutI n 0 1048576 = n from by rw [cutI, if_neg h0, if_neg h1])
      go_enter Try.func20, Try.ntmps20
      go_wp2
      go_ret
      refine ⟨?_, rfl⟩
      rw [E.out]
      congr 2
      repeat' split
      all_goals omega

set_option maxHeartbeats 1000000 in
theorem bNew_any (f n : Int) (w : World) :
    Calls Try.prog 8 #[.int .i64 f, .int .i64 n] w fun e w' => e = .returned (bpP w.heap.size) ∧ IsBp w' w.heap.size (cutI n 0 1048576) (cutI f 0 1048576) false 0 0 ∧ Below w.heap.size w w' := by
  have hF := bnearest_any f w
  have hN := bnearest_any n w
  have iF := cutI_in (n := f) (l := 0) (m := 1048576) (by omega)
  have iN := cutI_in (n := n) (l := 0) (m := 1048576) (by omega)
  obtain ⟨F, eF⟩ : ∃ F, cutI f 0 1048576 = F := ⟨_, rfl⟩
  obtain ⟨W, eW⟩ : ∃ W, cutI n 0 1048576 = W := ⟨_, rfl⟩
  rw [eF] at hF iF ⊢
  rw [eW] at hN iN ⊢
  have HF := Lib.hid hF
  have HN := Lib.hid hN
  obtain ⟨f0, f1⟩ := iF
  obtain ⟨n0, n1⟩ := iN
  clear hF hN eF eW
  go_enter Try.func8, Try.ntmps8
  go_wp2_with fail
  refine HF.out.mono ?_
  rintro e w1 ⟨rfl, rfl⟩
  go_wp2_with fail
  refine HN.out.mono ?_
  rintro e w1 ⟨rfl, rfl⟩
  go_wp2
  go_ret
  exact ⟨rfl, ⟨Blk.new w _ _, n0, n1, f0, f1, Int.le_refl _, n0, Int.le_refl _, n0⟩, (Below.refl _ _).alloc (Nat.le_refl _) _⟩

set_option maxHeartbeats 1000000 in
theorem filled_nil (w : World) :
    Calls Try.prog 21 #[.pointer none] w fun e w' => e = .returned (.agg #[.int .i64 0, .int .i64 0]) ∧ Below w.heap.size w w' := by
  go_enter Try.func21, Try.ntmps21
  go_wp2
  exact bodyPost_ret (v := Value.agg #[.int .i64 0, .int .i64 0]) (by simp [results, Try.results21, go_sem]) rfl ⟨rfl, (Below.refl _ _).alloc (Nat.le_refl _) _⟩

set_option maxHeartbeats 1000000 in
theorem other_nil (w : World) :
    Calls Try.prog 22 #[.pointer none] w fun e w' => e = .returned (.agg #[.int .i64 0, .int .i64 0]) ∧ Below w.heap.size w w' := by
  go_enter Try.func22, Try.ntmps22
  go_wp2
  exact bodyPost_ret (v := Value.agg #[.int .i64 0, .int .i64 0]) (by simp [results, Try.results22, go_sem]) rfl ⟨rfl, (Below.refl _ _).alloc (Nat.le_refl _) _⟩

set_option maxHeartbeats 1000000 in
theorem filled_any (b : Nat) (W F : Int) (n : Bool) (u v : Int) (w : World) (h : IsBp w b W F n u v) :
    Calls Try.prog 21 #[bpP b] w fun e w' => e = .returned (.agg #[.int .i64 (hAt W F n), .int .i64 u]) ∧ Below w.heap.size w w' := by
  have hl := h.lt
  have hb := h.blk
  clear h
  cases n
  · obtain ⟨c0, c1, c2, c3, c4, c5, cf⟩ := hb.six
    clear hb c0
    go_enter Try.func21, Try.ntmps21
    go_wp2_with fail
    go_region
    go_wp2
    exact bodyPost_ret (v := Value.agg #[.int .i64 F, .int .i64 u]) (by simp [results, Try.results21, go_sem]) rfl ⟨rfl, ((Below.refl _ w).alloc (Nat.le_refl _) _).drew⟩
  · obtain ⟨c0, c1, c2, c3, c4, c5, cf⟩ := hb.six
    clear hb c0
    go_enter Try.func21, Try.ntmps21
    go_wp2_with fail
    go_region
    go_wp2
    exact bodyPost_ret (v := Value.agg #[.int .i64 (F + W), .int .i64 u]) (by simp [results, Try.results21, go_sem]) rfl ⟨rfl, ((Below.refl _ w).alloc (Nat.le_refl _) _).drew⟩

set_option maxHeartbeats 1000000 in
theorem other_any (b : Nat) (W F : Int) (n : Bool) (u v : Int) (w : World) (h : IsBp w b W F n u v) :
    Calls Try.prog 22 #[bpP b] w fun e w' => e = .returned (.agg #[.int .i64 (hAt W F (!n)), .int .i64 v]) ∧ Below w.heap.size w w' := by
  have hl := h.lt
  have hb := h.blk
  clear h
  cases n
  · obtain ⟨c0, c1, c2, c3, c4, c5, cf⟩ := hb.six
    clear hb c0
    go_enter Try.func22, Try.ntmps22
    go_wp2_with fail
    go_region
    go_wp2
    exact bodyPost_ret (v := Value.agg #[.int .i64 (F + W), .int .i64 v]) (by simp [results, Try.results22, go_sem]) rfl ⟨rfl, ((Below.refl _ w).alloc (Nat.le_refl _) _).drew⟩
  · obtain ⟨c0, c1, c2, c3, c4, c5, cf⟩ := hb.six
    clear hb c0
    go_enter Try.func22, Try.ntmps22
    go_wp2_with fail
    go_region
    go_wp2
    exact bodyPost_ret (v := Value.agg #[.int .i64 F, .int .i64 v]) (by simp [results, Try.results22, go_sem]) rfl ⟨rfl, ((Below.refl _ w).alloc (Nat.le_refl _) _).drew⟩

/-- Is a place among the first u from a on? -/
def inB (a u x : Int) : Bool := decide (a ≤ x) && decide (x < a + u)

set_option maxHeartbeats 1000000 in
theorem has_any (a u x : Int) (w : World) (a0 : 0 ≤ a) (a1 : a ≤ 2097152) (u0 : 0 ≤ u) (u1 : u ≤ 1048576) :
    Calls Try.prog 23 #[.agg #[.int .i64 a, .int .i64 u], .int .i64 x] w fun e w' => e = .returned (.bool (inB a u x)) ∧ Below w.heap.size w w' := by
  by_cases h : a ≤ x
  · have E := Lib.hid (show inB a u x = decide (x < a + u) from by rw [inB, decide_eq_true h, Bool.true_and])
    go_enter Try.func23, Try.ntmps23
    go_wp2
    go_ret
    exact ⟨by rw [E.out]; rfl, (Below.refl _ _).alloc (Nat.le_refl _) _⟩
  · have E := Lib.hid (show inB a u x = false from by rw [inB, decide_eq_false h, Bool.false_and])
    go_enter Try.func23, Try.ntmps23
    go_wp2
    go_ret
    exact ⟨by rw [E.out]; rfl, (Below.refl _ _).alloc (Nat.le_refl _) _⟩

theorem hAt_in {W F : Int} (n : Bool) (w0 : 0 ≤ W) (w1 : W ≤ 1048576) (f0 : 0 ≤ F) (f1 : F ≤ 1048576) : 0 ≤ hAt W F n ∧ hAt W F n ≤ 2097152 := by
  unfold hAt; cases n <;> simp <;> omega
end Go.Proofs.Ytbpkoaojhcaahaa

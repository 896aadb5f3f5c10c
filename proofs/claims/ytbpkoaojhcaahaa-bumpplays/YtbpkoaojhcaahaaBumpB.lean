/- Contracts of the program's Used, Left, Room, In, From, Begin, Take, Flip, Drop. -/
import Derived.Test.YtbpkoaojhcaahaaBumpA
import Derived.Deep.RegionHeld3
namespace Go.Proofs.Ytbpkoaojhcaahaa
open Go.RowKit

theorem half_from (a u : Int) (w : World) : (Instr.field 44 (.agg #[.int .i64 a, .int .i64 u]) 0).run Try.prog w = .ok (.int .i64 a) w := by kernel_rfl
theorem half_used (a u : Int) (w : World) : (Instr.field 44 (.agg #[.int .i64 a, .int .i64 u]) 1).run Try.prog w = .ok (.int .i64 u) w := by kernel_rfl

set_option maxHeartbeats 1000000 in
theorem bUsed_nil (w : World) : Calls Try.prog 14 #[.pointer none] w fun e w' => e = .returned (.int .i64 0) ∧ Below w.heap.size w w' := by
  have fd := half_used
  go_enter Try.func14, Try.ntmps14
  go_wp2_with fail
  refine (filled_nil _).mono ?_
  rintro e w1 ⟨rfl, b1⟩
  go_wp2
  go_ret
  exact ⟨rfl, b1⟩

set_option maxHeartbeats 1000000 in
theorem bLeft_nil (w : World) : Calls Try.prog 15 #[.pointer none] w fun e w' => e = .returned (.int .i64 0) ∧ Below w.heap.size w w' := by
  have fd := half_used
  go_enter Try.func15, Try.ntmps15
  go_wp2_with fail
  refine (other_nil _).mono ?_
  rintro e w1 ⟨rfl, b1⟩
  go_wp2
  go_ret
  exact ⟨rfl, b1⟩

set_option maxHeartbeats 1000000 in
theorem bRoom_nil (w : World) : Calls Try.prog 16 #[.pointer none] w fun e w' => e = .returned (.int .i64 0) ∧ Below w.heap.size w w' := by
  go_enter Try.func16, Try.ntmps16
  go_wp2
  go_ret
  exact ⟨rfl, Below.refl _ _⟩

set_option maxHeartbeats 1000000 in
theorem bIn_nil (x : Int) (w : World) : Calls Try.prog 17 #[.pointer none, .int .i64 x] w fun e w' => e = .returned (.bool (inB 0 0 x)) ∧ Below w.heap.size w w' := by
  go_enter Try.func17, Try.ntmps17
  go_wp2_with fail
  refine (filled_nil _).mono ?_
  rintro e w1 ⟨rfl, b1⟩
  go_wp2_with fail
  refine (has_any 0 0 x w1 (by omega) (by omega) (by omega) (by omega)).mono ?_
  rintro e w2 ⟨rfl, b2⟩
  go_wp2
  go_ret
  exact ⟨rfl, below_trans b1 b2⟩

set_option maxHeartbeats 1000000 in
theorem bFrom_nil (x : Int) (w : World) : Calls Try.prog 18 #[.pointer none, .int .i64 x] w fun e w' => e = .returned (.bool (inB 0 0 x)) ∧ Below w.heap.size w w' := by
  go_enter Try.func18, Try.ntmps18
  go_wp2_with fail
  refine (other_nil _).mono ?_
  rintro e w1 ⟨rfl, b1⟩
  go_wp2_with fail
  refine (has_any 0 0 x w1 (by omega) (by omega) (by omega) (by omega)).mono ?_
  rintro e w2 ⟨rfl, b2⟩
  go_wp2
  go_ret
  exact ⟨rfl, below_trans b1 b2⟩

set_option maxHeartbeats 1000000 in
theorem bBegin_nil (w : World) : Calls Try.prog 13 #[.pointer none] w fun e w' => e = .returned (.tuple #[.int .i64 0, .int .i64 0]) ∧ Below w.heap.size w w' := by
  have fd := half_from
  go_enter Try.func13, Try.ntmps13
  go_wp2_with fail
  refine (filled_nil _).mono ?_
  rintro e w1 ⟨rfl, b1⟩
  go_wp2_with fail
  refine (other_nil _).mono ?_
  rintro e w2 ⟨rfl, b2⟩
  go_wp2
  go_ret2
  exact ⟨rfl, below_trans b1 b2⟩

set_option maxHeartbeats 1000000 in
theorem bTake_nil (k : Int) (w : World) : Calls Try.prog 10 #[.pointer none, .int .i64 k] w fun e w' => e = .returned (.tuple #[.int .i64 0, .bool false]) ∧ Below w.heap.size w w' := by
  by_cases h : k < 1
  · go_enter Try.func10, Try.ntmps10
    go_wp2
    go_ret2
    exact ⟨rfl, Below.refl _ _⟩
  · go_enter Try.func10, Try.ntmps10
    go_wp2_with fail
    refine (bRoom_nil _).mono ?_
    rintro e w1 ⟨rfl, b1⟩
    go_wp2
    go_ret2
    exact ⟨rfl, b1⟩

set_option maxHeartbeats 1000000 in
theorem bFlip_nil (w : World) : Calls Try.prog 11 #[.pointer none] w fun e w' => e = .returned (.bool false) ∧ Below w.heap.size w w' := by
  go_enter Try.func11, Try.ntmps11
  go_wp2
  go_ret
  exact ⟨rfl, Below.refl _ _⟩

set_option maxHeartbeats 1000000 in
theorem bDrop_nil (w : World) : Calls Try.prog 12 #[.pointer none] w fun e w' => e = .returned (.bool false) ∧ Below w.heap.size w w' := by
  go_enter Try.func12, Try.ntmps12
  go_wp2_with fail
  refine (bLeft_nil _).mono ?_
  rintro e w1 ⟨rfl, b1⟩
  go_wp2
  go_ret
  exact ⟨rfl, b1⟩

section
variable (b : Nat) (W F : Int) (n : Bool) (u v : Int) (w : World)

set_option maxHeartbeats 1000000 in
theorem bUsed_any (h : IsBp w b W F n u v) : Calls Try.prog 14 #[bpP b] w fun e w' => e = .returned (.int .i64 u) ∧ Below w.heap.size w w' := by
  have HH := Lib.hid h
  clear h
  have fd := half_used
  go_enter Try.func14, Try.ntmps14
  go_wp2_with fail
  refine (filled_any b W F n u v w HH.out).mono ?_
  rintro e w1 ⟨rfl, b1⟩
  go_wp2
  go_ret
  exact ⟨rfl, b1⟩

set_option maxHeartbeats 1000000 in
theorem bLeft_any (h : IsBp w b W F n u v) : Calls Try.prog 15 #[bpP b] w fun e w' => e = .returned (.int .i64 v) ∧ Below w.heap.size w w' := by
  have HH := Lib.hid h
  clear h
  have fd := half_used
  go_enter Try.func15, Try.ntmps15
  go_wp2_with fail
  refine (other_any b W F n u v w HH.out).mono ?_
  rintro e w1 ⟨rfl, b1⟩
  go_wp2
  go_ret
  exact ⟨rfl, b1⟩

theorem IsBp.first {w : World} {b : Nat} {W F u v : Int} {n : Bool} (h : IsBp w b W F n u v) : w.cell? ⟨b, 0, none⟩ = some (.int .i64 W) := by
  have := h.blk.cell 0
  cases n <;> exact this

set_option maxHeartbeats 2000000 in
theorem bRoom_any (h : IsBp w b W F n u v) : Calls Try.prog 16 #[bpP b] w fun e w' => e = .returned (.int .i64 (W - u)) ∧ Below w.heap.size w w' := by
  have w0 := h.w0
  have w1 := h.w1
  have u0 := h.u0
  have u1 := h.u1
  have kk := h.keep (below_drew w)
  have bb := below_drew w
  have HH := Lib.hid h
  have c0 := h.first
  have hs : IntKind.i64.wrap (W - u) = W - u := IntWalk.i64_in _ (by omega)
  clear h
  go_enter Try.func16, Try.ntmps16
  go_wp2_with fail
  clear c0
  go_region_held3 (fun w' => w'.cell? ⟨b, 0, none⟩ = some (.int .i64 W)) (exact kk.first)
    ((go_at_call 14; refine (bUsed_any b W F n u v _ kk).mono ?_; rintro e v1 ⟨rfl, b2⟩; have kk := kk.keep b2; have bb := below_trans bb b2; clear b2))
  all_goals
    go_wp2
    go_ret
    exact ⟨rfl, bb⟩

set_option maxHeartbeats 1000000 in
theorem bIn_any (x : Int) (h : IsBp w b W F n u v) : Calls Try.prog 17 #[bpP b, .int .i64 x] w fun e w' => e = .returned (.bool (inB (hAt W F n) u x)) ∧ Below w.heap.size w w' := by
  have HH := Lib.hid h
  have HI := Lib.hid (hAt_in n h.w0 h.w1 h.f0 h.f1)
  clear h
  generalize hA : hAt W F n = A at HI ⊢
  have HA := Lib.hid hA
  clear hA
  go_enter Try.func17, Try.ntmps17
  go_wp2_with fail
  refine (filled_any b W F n u v w HH.out).mono ?_
  rw [HA.out]
  rintro e w1 ⟨rfl, b1⟩
  go_wp2_with fail
  refine (has_any A u x w1 HI.out.1 HI.out.2 HH.out.u0 (Int.le_trans HH.out.u1 HH.out.w1)).mono ?_
  rintro e w2 ⟨rfl, b2⟩
  go_wp2
  go_ret
  exact ⟨rfl, below_trans b1 b2⟩

set_option maxHeartbeats 1000000 in
theorem bFrom_any (x : Int) (h : IsBp w b W F n u v) : Calls Try.prog 18 #[bpP b, .int .i64 x] w fun e w' => e = .returned (.bool (inB (hAt W F (!n)) v x)) ∧ Below w.heap.size w w' := by
  have HH := Lib.hid h
  have HI := Lib.hid (hAt_in (!n) h.w0 h.w1 h.f0 h.f1)
  clear h
  generalize hA : hAt W F (!n) = A at HI ⊢
  have HA := Lib.hid hA
  clear hA
  go_enter Try.func18, Try.ntmps18
  go_wp2_with fail
  refine (other_any b W F n u v w HH.out).mono ?_
  rw [HA.out]
  rintro e w1 ⟨rfl, b1⟩
  go_wp2_with fail
  refine (has_any A v x w1 HI.out.1 HI.out.2 HH.out.v0 (Int.le_trans HH.out.v1 HH.out.w1)).mono ?_
  rintro e w2 ⟨rfl, b2⟩
  go_wp2
  go_ret
  exact ⟨rfl, below_trans b1 b2⟩

set_option maxHeartbeats 1000000 in
theorem bBegin_any (h : IsBp w b W F n u v) : Calls Try.prog 13 #[bpP b] w fun e w' => e = .returned (.tuple #[.int .i64 (hAt W F n), .int .i64 (hAt W F (!n))]) ∧ Below w.heap.size w w' := by
  have HH := Lib.hid h
  clear h
  generalize hA : hAt W F n = A
  generalize hB : hAt W F (!n) = B
  have HA := Lib.hid hA
  have HB := Lib.hid hB
  clear hA hB
  have fd := half_from
  go_enter Try.func13, Try.ntmps13
  go_wp2_with fail
  refine (filled_any b W F n u v w HH.out).mono ?_
  rw [HA.out]
  rintro e w1 ⟨rfl, b1⟩
  go_wp2_with fail
  refine (other_any b W F n u v w1 (HH.out.keep b1)).mono ?_
  rw [HB.out]
  rintro e w2 ⟨rfl, b2⟩
  go_wp2
  go_ret2
  exact ⟨rfl, below_trans b1 b2⟩

set_option maxHeartbeats 1000000 in
theorem bTake_no (k : Int) (h : IsBp w b W F n u v) (hk : k < 1 ∨ W - u < k) :
    Calls Try.prog 10 #[bpP b, .int .i64 k] w fun e w' => e = .returned (.tuple #[.int .i64 0, .bool false]) ∧ Below w.heap.size w w' := by
  have HH := Lib.hid h
  clear h
  by_cases h1 : k < 1
  · clear hk
    go_enter Try.func10, Try.ntmps10
    go_wp2
    go_ret2
    exact ⟨rfl, Below.refl _ _⟩
  · have h2 : W - u < k := by omega
    clear hk
    go_enter Try.func10, Try.ntmps10
    go_wp2_with fail
    refine (bRoom_any b W F n u v w HH.out).mono ?_
    rintro e w1 ⟨rfl, b1⟩
    go_wp2
    go_ret2
    exact ⟨rfl, b1⟩

end

section
variable {w : World} {b : Nat} {W F u v : Int} {n : Bool}
theorem IsBp.setU (h : IsBp w b W F n u v) (x : Int) (x0 : 0 ≤ x) (x1 : x ≤ W) : IsBp (w.setCell ⟨b, bif n then 4 else 2, none⟩ (.int .i64 x)) b W F n x v :=
  { h with blk := by have := h.blk.set_ (bif n then 4 else 2) (.int .i64 x); cases n <;> exact this
           u0 := x0
           u1 := x1 }
theorem IsBp.setV (h : IsBp w b W F n u v) (x : Int) (x0 : 0 ≤ x) (x1 : x ≤ W) : IsBp (w.setCell ⟨b, bif n then 2 else 4, none⟩ (.int .i64 x)) b W F n u x :=
  { h with blk := by have := h.blk.set_ (bif n then 2 else 4) (.int .i64 x); cases n <;> exact this
           v0 := x0
           v1 := x1 }
theorem IsBp.turn (h : IsBp w b W F n u v) : IsBp (w.setCell ⟨b, 5, none⟩ (.int .i64 (bif n then 0 else 1))) b W F (!n) v u :=
  { h with blk := by have := h.blk.set_ 5 (.int .i64 (bif n then 0 else 1)); cases n <;> exact this
           u0 := h.v0
           u1 := h.v1
           v0 := h.u0
           v1 := h.u1 }
theorem frm_one {w w1 : World} {b : Nat} (h : Below w.heap.size w w1) (i : Nat) (x : Value) : Frm (· = b) w (w1.setCell ⟨b, i, none⟩ x) :=
  (Frm.of_below (S := fun k => k = b) h).setCell (p := ⟨b, i, none⟩) (fun _ => rfl) x
end

section
variable (b : Nat) (W F : Int) (n : Bool) (u v : Int) (w : World)

set_option maxHeartbeats 4000000 in
theorem bTake_yes (k : Int) (h : IsBp w b W F n u v) (h1 : 1 ≤ k) (h2 : k ≤ W - u) :
    Calls Try.prog 10 #[bpP b, .int .i64 k] w fun e w' => e = .returned (.tuple #[.int .i64 (hAt W F n + u), .bool true]) ∧ IsBp w' b W F n (u + k) v ∧ Frm (· = b) w w' := by
  have w0 := h.w0
  have w1 := h.w1
  have f0 := h.f0
  have f1 := h.f1
  have u0 := h.u0
  have u1 := h.u1
  have HH := Lib.hid h
  clear h
  cases n
  all_goals
    go_enter Try.func10, Try.ntmps10
    go_wp2_with fail
    refine (bRoom_any b W F _ u v w HH.out).mono ?_
    rintro e w1 ⟨rfl, b1⟩
    have hi := HH.out.keep b1
    have hl := hi.lt
    obtain ⟨c0, c1, c2, c3, c4, c5, cf⟩ := hi.blk.six
    have HI := Lib.hid hi
    clear hi c0
    go_wp2_with fail
    go_region
    go_wp2_with fail
    go_region
    go_wp2
    go_ret2
    refine ⟨rfl, ?_, ?_⟩
    · exact ((HI.out.setU (u + k) (by omega) (by omega)).keep (below_drew _)).keep (below_drew _)
    · exact (frm_one b1 _ _).drew.drew

set_option maxHeartbeats 4000000 in
theorem bFlip_no (h : IsBp w b W F n u v) (hv : 0 < v) :
    Calls Try.prog 11 #[bpP b] w fun e w' => e = .returned (.bool false) ∧ Below w.heap.size w w' := by
  have HH := Lib.hid h
  clear h
  go_enter Try.func11, Try.ntmps11
  go_wp2_with fail
  refine (bLeft_any b W F n u v w HH.out).mono ?_
  rintro e w1 ⟨rfl, b1⟩
  go_wp2
  go_ret
  exact ⟨rfl, b1⟩

set_option maxHeartbeats 4000000 in
theorem bFlip_yes (h : IsBp w b W F n u 0) :
    Calls Try.prog 11 #[bpP b] w fun e w' => e = .returned (.bool true) ∧ IsBp w' b W F (!n) 0 u ∧ Frm (· = b) w w' := by
  have HH := Lib.hid h
  clear h
  cases n
  all_goals
    go_enter Try.func11, Try.ntmps11
    go_wp2_with fail
    refine (bLeft_any b W F _ u 0 w HH.out).mono ?_
    rintro e w1 ⟨rfl, b1⟩
    have hi := HH.out.keep b1
    have hl := hi.lt
    obtain ⟨c0, c1, c2, c3, c4, c5, cf⟩ := hi.blk.six
    have HI := Lib.hid hi
    clear hi c0 c1 c2 c3 c4
    go_wp2
    go_ret
    exact ⟨rfl, HI.out.turn, frm_one b1 _ _⟩

set_option maxHeartbeats 4000000 in
theorem bDrop_no (h : IsBp w b W F n u 0) :
    Calls Try.prog 12 #[bpP b] w fun e w' => e = .returned (.bool false) ∧ Below w.heap.size w w' := by
  have HH := Lib.hid h
  clear h
  go_enter Try.func12, Try.ntmps12
  go_wp2_with fail
  refine (bLeft_any b W F n u 0 w HH.out).mono ?_
  rintro e w1 ⟨rfl, b1⟩
  go_wp2
  go_ret
  exact ⟨rfl, b1⟩

set_option maxHeartbeats 4000000 in
theorem bDrop_yes (h : IsBp w b W F n u v) (hv : 0 < v) :
    Calls Try.prog 12 #[bpP b] w fun e w' => e = .returned (.bool true) ∧ IsBp w' b W F n u 0 ∧ Frm (· = b) w w' := by
  have w0 := h.w0
  have HH := Lib.hid h
  have hv2 : (v == 0) = false := by simp; omega
  have hv3 : decide (v = 0) = false := by simp; omega
  clear h
  cases n
  all_goals
    go_enter Try.func12, Try.ntmps12
    go_wp2_with fail
    refine (bLeft_any b W F _ u v w HH.out).mono ?_
    rintro e w1 ⟨rfl, b1⟩
    have hi := HH.out.keep b1
    have hl := hi.lt
    obtain ⟨c0, c1, c2, c3, c4, c5, cf⟩ := hi.blk.six
    have HI := Lib.hid hi
    clear hi c0
    go_wp2_with fail
    go_region
    go_wp2
    go_ret
    refine ⟨rfl, ?_, ?_⟩
    · exact (HI.out.setV 0 (by omega) (by omega)).keep (below_drew _)
    · exact (frm_one b1 _ _).drew
end
end Go.Proofs.Ytbpkoaojhcaahaa

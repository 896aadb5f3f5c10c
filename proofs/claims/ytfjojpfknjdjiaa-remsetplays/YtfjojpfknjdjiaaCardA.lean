/- Marks in memory; contracts of the program's nearest, New, all, has, find. -/
import Derived.Test.YtfjojpfknjdjiaaFlags
import Derived.Test.YtfjojpfknjdjiaaCutN
import Derived.Deep.QuietTactic
import Derived.BigQuiet
import Derived.BigRegion
import Derived.IntWalk
import Derived.Deep.RegionHeld3
namespace Go.Proofs.Ytfjojpfknjdjiaa
open Go.RowKit

/-- Block b is marks for C words each of W, from F on; they lie in block mb. -/
structure IsTb (w : World) (b mb : Nat) (F W C : Int) (ms : List Bool) : Prop where
  blk : Blk w b #[.int .i64 F, .int .i64 W, .int .i64 C, .slice (some ⟨mb, 0, none⟩) ms.length ms.length] 65
  row : Blk w mb (ms.map Value.bool).toArray 4
  f0 : 0 ≤ F
  f1 : F ≤ 1048576
  w0 : 0 ≤ W
  w1 : W ≤ 1048576
  c0 : 1 ≤ C
  c1 : C ≤ 1048576
  len : (ms.length : Int) = (W + C - 1) / C

abbrev tbP (b : Nat) : Value := .pointer (some ⟨b, 0, none⟩)

/-- How many marks there are: no more than words, enough for all. -/
theorem marks_in {W C : Int} (w0 : 0 ≤ W) (w1 : W ≤ 1048576) (c0 : 1 ≤ C) :
    0 ≤ (W + C - 1) / C ∧ (W + C - 1) / C ≤ 1048576 ∧ W ≤ (W + C - 1) / C * C ∧ (W + C - 1) / C * C < W + C := by
  have e := Int.mul_ediv_add_emod (W + C - 1) C
  have m0 : 0 ≤ (W + C - 1) % C := Int.emod_nonneg _ (by omega)
  have m1 := Int.emod_lt_of_pos (W + C - 1) (show 0 < C by omega)
  have q0 : 0 ≤ (W + C - 1) / C := Int.ediv_nonneg (by omega) (by omega)
  rw [Int.mul_comm] at e
  have q1 : (W + C - 1) / C ≤ W := by
    by_cases h : W = 0
    · subst h
      have : (0 + C - 1) / C = 0 := Int.ediv_eq_zero_of_lt (by omega) (by omega)
      omega
    · have := Int.ediv_le_of_le_mul (a := W + C - 1) (b := W) (c := C) (by omega) (by
        have h2 : (W - 1) * 1 ≤ (W - 1) * C := Int.mul_le_mul_of_nonneg_left (by omega) (by omega)
        have h3 : W * C = (W - 1) * C + C := by rw [Int.sub_mul, Int.one_mul]; omega
        omega)
      omega
  generalize (W + C - 1) / C = q at *
  generalize q * C = qc at *
  omega

section
variable {w w' : World} {b mb : Nat} {F W C : Int} {ms : List Bool}
theorem IsTb.lt (h : IsTb w b mb F W C ms) : b < w.heap.size := h.blk.lt
theorem IsTb.lt2 (h : IsTb w b mb F W C ms) : mb < w.heap.size := h.row.lt
theorem IsTb.ne (h : IsTb w b mb F W C ms) : b ≠ mb := Blk.ne_ h.blk h.row (by decide)
theorem IsTb.keep (h : IsTb w b mb F W C ms) (f : Below w.heap.size w w') : IsTb w' b mb F W C ms := { h with blk := h.blk.keep f, row := h.row.keep f }
theorem IsTb.alloc (h : IsTb w b mb F W C ms) (o : Obj) : IsTb (w.alloc o) b mb F W C ms := { h with blk := h.blk.alloc o, row := h.row.alloc o }
theorem IsTb.set (h : IsTb w b mb F W C ms) (i : Nat) (x : Bool) : IsTb (w.setCell ⟨mb, i, none⟩ (.bool x)) b mb F W C (ms.set i x) :=
  { h with blk := by rw [List.length_set]; exact h.blk.far h.ne _
           row := h.row.setBool i x
           len := by rw [List.length_set]; exact h.len }
theorem IsTb.far (h : IsTb w b mb F W C ms) {p : Addr} (hb : b ≠ p.block) (hm : mb ≠ p.block) (v : Value) : IsTb (w.setCell p v) b mb F W C ms := { h with blk := h.blk.far hb v, row := h.row.far hm v }
theorem IsTb.few (h : IsTb w b mb F W C ms) : ms.length ≤ 1048576 := by have := marks_in h.w0 h.w1 h.c0; have := h.len; omega
theorem IsTb.four (h : IsTb w b mb F W C ms) :
    w.cell? ⟨b, 0, none⟩ = some (.int .i64 F) ∧ w.cell? ⟨b, 1, none⟩ = some (.int .i64 W) ∧ w.cell? ⟨b, 2, none⟩ = some (.int .i64 C) ∧ w.cell? ⟨b, 3, none⟩ = some (.slice (some ⟨mb, 0, none⟩) ms.length ms.length) ∧
    (∀ i, w.frozen? ⟨b, i, none⟩ = false) := ⟨h.blk.cell 0, h.blk.cell 1, h.blk.cell 2, h.blk.cell 3, h.blk.frozen⟩
/-- A place's mark. -/
theorem IsTb.at_ (h : IsTb w b mb F W C ms) {x : Int} (x0 : F ≤ x) (x1 : x < F + W) : 0 ≤ (x - F) / C ∧ (x - F) / C < ms.length := by
  have k := marks_in h.w0 h.w1 h.c0
  have c0 := h.c0
  refine ⟨Int.ediv_nonneg (by omega) (by omega), ?_⟩
  rw [h.len]
  exact Int.ediv_lt_of_lt_mul (by omega) (by omega)
end

set_option maxHeartbeats 1000000 in
theorem cnearest_any (n l : Int) (w : World) (hl : l ≤ 1048576) :
    Calls Try.prog 32 #[.int .i64 n, .int .i64 l] w fun e w' => e = .returned (.int .i64 (cutI n l 1048576)) ∧ w = w' := by
  by_cases h0 : n < l
  · have E := Lib.hid (show cutI n l 1048576 = l from if_pos h0)
    go_enter Try.func32, Try.ntmps32
    go_wp2
    go_ret
    refine ⟨?_, rfl⟩
    rw [E.out]
    congr 2
    repeat' split
    all_goals omega
  · by_cases h1 : 1048576 < n
    · have E := Lib.hid (show cutI n l 1048576 = 1048576 from by rw [cutI, if_neg h0, if_pos h1])
      go_enter Try.func32, Try.ntmps32
      go_wp2
      go_ret
      refine ⟨?_, rfl⟩
      rw [E.out]
      congr 2
      repeat' split
      all_goals omega
    · have E := Lib.hid (show cutI n l 1048576 = n from by rw [cutI, if_neg h0, if_neg h1])
      go_enter Try.func32, Try.ntmps32
      go_wp2
      go_ret
      refine ⟨?_, rfl⟩
      rw [E.out]
      congr 2
      repeat' split
      all_goals omega

set_option maxHeartbeats 1000000 in
theorem call_any (b mb : Nat) (F W C : Int) (ms : List Bool) (w : World) (h : IsTb w b mb F W C ms) :
    Calls Try.prog 35 #[tbP b] w fun e w' => e = .returned (.slice (some ⟨mb, 0, none⟩) ms.length ms.length) ∧ w = w' := by
  obtain ⟨c0, c1, c2, c3, cf⟩ := h.four
  clear c0 c1 c2 h
  go_enter Try.func35, Try.ntmps35
  go_wp2
  go_ret
  exact ⟨rfl, rfl⟩

set_option maxHeartbeats 1000000 in
theorem call_nil (w : World) : Calls Try.prog 35 #[.pointer none] w fun e w' => e = .returned (.slice none 0 0) ∧ w = w' := by
  go_enter Try.func35, Try.ntmps35
  go_wp2
  go_ret
  exact ⟨rfl, rfl⟩

def hasI (N : Nat) (n : Int) : Bool := decide (0 ≤ n) && decide (n < N)

theorem hasI_yes {N : Nat} {n : Int} (h0 : 0 ≤ n) (h1 : n < N) : hasI N n = true := by simp [hasI, h0, h1]
theorem hasI_no {N : Nat} {n : Int} (h : n < 0 ∨ N ≤ n) : hasI N n = false := by
  rw [hasI, Bool.and_eq_false_iff, decide_eq_false_iff_not, decide_eq_false_iff_not]; omega

set_option maxHeartbeats 1000000 in
theorem chas_any (b mb : Nat) (F W C : Int) (ms : List Bool) (n : Int) (w : World) (h : IsTb w b mb F W C ms) :
    Calls Try.prog 33 #[tbP b, .int .i64 n] w fun e w' => e = .returned (.bool (hasI ms.length n)) ∧ w = w' := by
  have HA := Lib.hid (call_any b mb F W C ms w h)
  clear h
  generalize ms.length = N at HA ⊢
  by_cases h0 : 0 ≤ n
  · have E := Lib.hid (show hasI N n = decide (n < (N : Int)) from by rw [hasI, decide_eq_true h0, Bool.true_and])
    go_enter Try.func33, Try.ntmps33
    go_wp2_with fail
    refine HA.out.mono ?_
    rintro e w1 ⟨rfl, rfl⟩
    go_wp2
    go_ret
    exact ⟨by rw [E.out]; rfl, rfl⟩
  · have E := Lib.hid (show hasI N n = false from by rw [hasI, decide_eq_false h0, Bool.false_and])
    go_enter Try.func33, Try.ntmps33
    go_wp2
    go_ret
    exact ⟨by rw [E.out]; rfl, rfl⟩

set_option maxHeartbeats 1000000 in
theorem chas_nil (n : Int) (w : World) : Calls Try.prog 33 #[.pointer none, .int .i64 n] w fun e w' => e = .returned (.bool false) ∧ w = w' := by
  by_cases h0 : 0 ≤ n
  · have h1 : decide (n < 0) = false := decide_eq_false (by omega)
    go_enter Try.func33, Try.ntmps33
    go_wp2_with fail
    refine (call_nil w).mono ?_
    rintro e w1 ⟨rfl, rfl⟩
    go_wp2
    go_ret
    exact ⟨rfl, rfl⟩
  · go_enter Try.func33, Try.ntmps33
    go_wp2
    go_ret
    exact ⟨rfl, rfl⟩

set_option maxHeartbeats 2000000 in
theorem cfind_yes (b mb : Nat) (F W C : Int) (ms : List Bool) (x : Int) (j : Nat) (w : World) (h : IsTb w b mb F W C ms) (x0 : F ≤ x) (x1 : x < F + W) (hj : (x - F) / C = j) :
    Calls Try.prog 37 #[tbP b, .int .i64 x] w fun e w' => e = .returned (.tuple #[.int .i64 j, .bool true]) ∧ Below w.heap.size w w' := by
  obtain ⟨c0, c1, c2, c3, cf⟩ := h.four
  have f0 := h.f0
  have f1 := h.f1
  have w1 := h.w1
  have k0 := h.c0
  have at0 := h.at_ x0 x1
  have few := h.few
  have hs : IntKind.i64.wrap (x - F) = x - F := IntWalk.i64_in _ (by omega)
  have hd : (x - F).tdiv C = j := by rw [← hj]; exact Int.tdiv_eq_ediv_of_nonneg (by omega)
  rw [hj] at at0
  have hw : IntKind.i64.wrap (j : Int) = j := IntWalk.i64_in _ (by omega)
  clear hj
  have d0 : decide (x < F) = false := decide_eq_false (by omega)
  have d1 : decide (x - F ≥ W) = false := decide_eq_false (by omega)
  have d2 : decide (W ≤ x - F) = false := decide_eq_false (by omega)
  clear h c3
  go_enter Try.func37, Try.ntmps37
  go_wp2_with fail
  go_big_quiet (fail)
  go_wp2_with fail
  go_big_quiet (fail)
  go_wp2
  go_ret2
  exact ⟨rfl, below_trans (below_drewN _ _) (below_drewN _ _)⟩

set_option maxHeartbeats 2000000 in
theorem cfind_no (b mb : Nat) (F W C : Int) (ms : List Bool) (x : Int) (w : World) (h : IsTb w b mb F W C ms) (hx : x < F ∨ F + W ≤ x) (hi : x ≤ 9223372036854775807) :
    Calls Try.prog 37 #[tbP b, .int .i64 x] w fun e w' => e = .returned (.tuple #[.int .i64 0, .bool false]) ∧ Below w.heap.size w w' := by
  obtain ⟨c0, c1, c2, c3, cf⟩ := h.four
  have f0 := h.f0
  have f1 := h.f1
  have w0 := h.w0
  have w1 := h.w1
  clear h c3 c2
  by_cases x0 : x < F
  · have d0 : decide (x < F) = true := decide_eq_true x0
    clear hx
    go_enter Try.func37, Try.ntmps37
    go_wp2_with fail
    go_big_quiet (fail)
    go_wp2
    go_ret2
    exact ⟨rfl, below_drewN _ _⟩
  · have x1 : F + W ≤ x := by omega
    have hs : IntKind.i64.wrap (x - F) = x - F := IntWalk.i64_in _ (by omega)
    have d0 : decide (x < F) = false := decide_eq_false x0
    have d1 : decide (x - F ≥ W) = true := decide_eq_true (by omega)
    have d2 : decide (W ≤ x - F) = true := decide_eq_true (by omega)
    clear hx
    go_enter Try.func37, Try.ntmps37
    go_wp2_with fail
    go_big_quiet (fail)
    go_wp2
    go_ret2
    exact ⟨rfl, below_drewN _ _⟩

set_option maxHeartbeats 2000000 in
theorem cfind_nil (x : Int) (w : World) :
    Calls Try.prog 37 #[.pointer none, .int .i64 x] w fun e w' => e = .returned (.tuple #[.int .i64 0, .bool false]) ∧ Below w.heap.size w w' := by
  go_enter Try.func37, Try.ntmps37
  go_wp2_with fail
  go_big_quiet (fail)
  go_wp2
  go_ret2
  exact ⟨rfl, below_drewN _ _⟩

set_option maxHeartbeats 4000000 in
theorem cNew_any (f n c : Int) (w : World) :
    Calls Try.prog 21 #[.int .i64 f, .int .i64 n, .int .i64 c] w fun e w' => ∃ b mb, e = .returned (tbP b) ∧ w.heap.size ≤ b ∧ w.heap.size ≤ mb ∧
      (∃ N : Nat, (N : Int) = (cutI n 0 1048576 + cutI c 1 1048576 - 1) / cutI c 1 1048576 ∧ IsTb w' b mb (cutI f 0 1048576) (cutI n 0 1048576) (cutI c 1 1048576) (List.replicate N false)) ∧ Below w.heap.size w w' := by
  have hF : ∀ v, _ := fun v => cnearest_any f 0 v (by omega)
  have hN := cnearest_any n 0 w (by omega)
  have hC := cnearest_any c 1 w (by omega)
  have iF := cutI_in (n := f) (l := 0) (m := 1048576) (by omega)
  have iN := cutI_in (n := n) (l := 0) (m := 1048576) (by omega)
  have iC := cutI_in (n := c) (l := 1) (m := 1048576) (by omega)
  obtain ⟨F, eF⟩ : ∃ F, cutI f 0 1048576 = F := ⟨_, rfl⟩
  obtain ⟨W, eW⟩ : ∃ W, cutI n 0 1048576 = W := ⟨_, rfl⟩
  obtain ⟨C, eC⟩ : ∃ C, cutI c 1 1048576 = C := ⟨_, rfl⟩
  rw [eF] at hF iF ⊢
  rw [eW] at hN iN ⊢
  rw [eC] at hC iC ⊢
  have HF := Lib.hid hF
  have HN := Lib.hid hN
  have HC := Lib.hid hC
  obtain ⟨f0, f1⟩ := iF
  obtain ⟨n0, n1⟩ := iN
  obtain ⟨c0, c1⟩ := iC
  clear hF hN hC eF eW eC
  have mi := marks_in n0 n1 c0
  have hd : (W + C - 1).tdiv C = (W + C - 1) / C := Int.tdiv_eq_ediv_of_nonneg (by omega)
  obtain ⟨Q, hQ⟩ : ∃ Q, (W + C - 1) / C = Q := ⟨_, rfl⟩
  rw [hQ] at mi hd ⊢
  obtain ⟨q0, q1, q2, q3⟩ := mi
  have HQ := Lib.hid hQ
  clear hQ q2 q3
  have hmk := run_make_bool Q q0 (by omega)
  have s1 : IntKind.i64.wrap (W + C) = W + C := IntWalk.i64_in _ (by omega)
  have s2 : IntKind.i64.wrap (W + C - 1) = W + C - 1 := IntWalk.i64_in _ (by omega)
  have s3 : IntKind.i64.wrap Q = Q := IntWalk.i64_in _ (by omega)
  have cz : ¬ C = 0 := by omega
  have cz2 : (C == 0) = false := by simp; omega
  go_enter Try.func21, Try.ntmps21
  go_wp2_with fail
  refine HN.out.mono ?_
  rintro e w1 ⟨rfl, rfl⟩
  go_wp2_with fail
  refine HC.out.mono ?_
  rintro e w1 ⟨rfl, rfl⟩
  go_wp2_with fail
  go_region_held3 (fun _ => True) (exact trivial)
    ((go_at_call 32; refine (HF.out _).mono ?_; rintro e v1 ⟨rfl, rfl⟩))
  all_goals
    go_wp2
    go_ret
    refine ⟨w.heap.size + 1, w.heap.size, rfl, by omega, Nat.le_refl _, ⟨Q.toNat, by omega, ⟨?_, ?_, f0, f1, n0, n1, c0, c1, ?_⟩⟩, (((Below.refl _ _).alloc (Nat.le_refl _) _).alloc (by simp) _).drew⟩
    · rw [List.length_replicate]
      have h := Blk.new (w.alloc (.cells (Array.replicate Q.toNat (Value.bool false)) 4)) #[.int .i64 F, .int .i64 W, .int .i64 C, .slice (some ⟨w.heap.size, 0, none⟩) Q.toNat Q.toNat] 65
      simpa using h.drew
    · have h := ((Blk.new w (Array.replicate Q.toNat (Value.bool false)) 4).alloc (.cells #[.int .i64 F, .int .i64 W, .int .i64 C, .slice (some ⟨w.heap.size, 0, none⟩) Q.toNat Q.toNat] 65)).drew
      simpa using h
    · rw [List.length_replicate, HQ.out]; omega
end Go.Proofs.Ytfjojpfknjdjiaa

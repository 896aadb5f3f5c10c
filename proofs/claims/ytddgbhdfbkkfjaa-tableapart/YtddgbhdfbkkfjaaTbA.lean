/- A table in memory; contracts of the program's New, has, Get, Set, All; of none, too. -/
import Derived.Test.YtddgbhdfbkkfjaaClQ
import Derived.Test.YtddgbhdfbkkfjaaCutI
import Derived.Deep.QuietTactic
import Derived.BigQuiet
import Derived.BigRegion
import Derived.IntWalk
namespace Go.Proofs.Ytddgbhdfbkkfjaa
open Go.RowKit

/-- Block b is a table, whose handles hold xs, in block g. -/
structure IsHt (w : World) (b g : Nat) (xs : List Int) : Prop where
  blk : Blk w b #[.slice (some ⟨g, 0, none⟩) xs.length xs.length] 37
  row : Blk w g (ints xs).toArray 3
  few : xs.length ≤ 64

/-- So many noughts. -/
def zeros (n : Int) : List Int := List.replicate n.toNat 0
theorem zeros_length (n : Int) : (zeros n).length = n.toNat := List.length_replicate

abbrev tbP (b : Nat) : Value := .pointer (some ⟨b, 0, none⟩)

theorem madeI (n : Nat) : madeCells (Value.int .i64 0).cells n = (ints (zeros n)).toArray := by
  apply Array.ext
  · simp [madeCells, ints, zeros]
  · intro i h1 h2
    simp [madeCells, Value.cells, Nat.mod_one, ints, zeros]

/-- Numbers that are made. -/
theorem run_make_int (n : Int) (h0 : 0 ≤ n) (h1 : n ≤ 1073741824) (w : World) :
    (Instr.makeSlice 22 (.int .i64 n) (.int .i64 n)).run Try.prog w = .ok (.slice (some ⟨w.heap.size, 0, none⟩) n.toNat n.toNat) (w.alloc (.cells (ints (zeros n)).toArray 3)) := by
  obtain ⟨i, hi, hz, hs, hb⟩ := info_parts info_int
  have h := run_make (P := Try.prog) w 22 3 i _ Try.underlying22 hi hz .i64 .i64 n n h0 (Int.le_refl _) (by rw [hb]; omega) (by omega)
  rw [hs, Nat.mul_one, madeI, Int.toNat_of_nonneg h0] at h
  exact h

theorem Blk.ints_at {w : World} {b : Nat} {t : TypeId} {xs : List Int} (h : Blk w b (ints xs).toArray t) {i : Nat} {x : Int} (hx : xs[i]? = some x) : w.cell? ⟨b, i, none⟩ = some (.int .i64 x) := by
  rw [h.cell]; simp [ints, hx]

theorem Blk.setInt {w : World} {b : Nat} {t : TypeId} {xs : List Int} (h : Blk w b (ints xs).toArray t) (i : Nat) (x : Int) : Blk (w.setCell ⟨b, i, none⟩ (.int .i64 x)) b (ints (xs.set i x)).toArray t := by
  have := h.set_ i (.int .i64 x)
  have e : (ints xs).toArray.setIfInBounds i (.int .i64 x) = (ints (xs.set i x)).toArray := by
    apply Array.ext'
    simp [ints]
  rw [← e]
  exact this

section
variable {w w' : World} {b g : Nat} {xs : List Int}
theorem IsHt.ne (h : IsHt w b g xs) : b ≠ g := Blk.ne_ h.blk h.row (by decide)
theorem IsHt.keep (h : IsHt w b g xs) (f : Below w.heap.size w w') : IsHt w' b g xs := { h with blk := h.blk.keep f, row := h.row.keep f }
theorem IsHt.frm {S : Nat → Prop} (h : IsHt w b g xs) (f : Frm S w w') (hb : ¬ S b) (hg : ¬ S g) : IsHt w' b g xs := { h with blk := h.blk.frm f hb, row := h.row.frm f hg }
theorem IsHt.qu (h : IsHt w b g xs) : Qu w (some ⟨g, 0, none⟩) xs.length xs.length xs :=
  ⟨rfl, Nat.le_refl _, Nat.le_trans h.few (by decide), .inr ⟨g, 0, _, rfl, h.row, by simp [ints], fun i x hx => by simp [ints, hx]⟩⟩
theorem IsHt.set (h : IsHt w b g xs) (i : Nat) (x : Int) : IsHt (w.setCell ⟨g, i, none⟩ (.int .i64 x)) b g (xs.set i x) :=
  ⟨by rw [List.length_set]; exact h.blk.far (p := ⟨g, i, none⟩) h.ne _, h.row.setInt i x, by rw [List.length_set]; exact h.few⟩
end

theorem tb_made (w : World) (n K : Int) (N : Nat) (e : cutI n 0 64 = K) (eN : K.toNat = N) : IsHt ((w.alloc (.cells (ints (zeros K)).toArray 3)).alloc (.cells #[.slice (some ⟨w.heap.size, 0, none⟩) N N] 37)) (w.heap.size + 1) w.heap.size (zeros (cutI n 0 64)) := by
  subst e
  subst eN
  have hk := cutI_in (n := n) (l := 0) (m := 64) (by decide)
  refine ⟨?_, (Blk.new w _ _).alloc _, by rw [zeros_length]; omega⟩
  rw [zeros_length]
  have := Blk.new (w.alloc (.cells (ints (zeros (cutI n 0 64))).toArray 3)) #[.slice (some ⟨w.heap.size, 0, none⟩) (cutI n 0 64).toNat (cutI n 0 64).toNat] 37
  simpa using this

set_option maxHeartbeats 1000000 in
theorem tbNew_any (n : Int) (w : World) :
    Calls Try.prog 6 #[.int .i64 n] w fun e w' => e = .returned (tbP (w.heap.size + 1)) ∧ IsHt w' (w.heap.size + 1) w.heap.size (zeros (cutI n 0 64)) ∧ Below w.heap.size w w' := by
  by_cases h0 : n < 0
  · have mk := run_make_int 0 (by decide) (by decide)
    have e0 := Lib.hid (show cutI n 0 64 = 0 by unfold cutI; rw [if_pos h0])
    go_enter Try.func6, Try.ntmps6
    go_wp2
    go_ret
    exact ⟨rfl, tb_made w n 0 0 e0.out rfl, ((Below.refl _ _).alloc (Nat.le_refl _) _).alloc (by simp) _⟩
  · by_cases h1 : 64 < n
    · have mk := run_make_int 64 (by decide) (by decide)
      have e0 := Lib.hid (show cutI n 0 64 = 64 by unfold cutI; rw [if_neg h0, if_pos h1])
      go_enter Try.func6, Try.ntmps6
      go_wp2
      go_ret
      exact ⟨rfl, tb_made w n 64 64 e0.out rfl, ((Below.refl _ _).alloc (Nat.le_refl _) _).alloc (by simp) _⟩
    · have mk := run_make_int n (by omega) (by omega)
      have e0 := Lib.hid (show cutI n 0 64 = n by unfold cutI; rw [if_neg h0, if_neg h1])
      go_enter Try.func6, Try.ntmps6
      go_wp2
      go_ret
      exact ⟨rfl, tb_made w n n _ e0.out rfl, ((Below.refl _ _).alloc (Nat.le_refl _) _).alloc (by simp) _⟩

section
variable (b g : Nat) (xs : List Int) (x : Int) (w : World)

set_option maxHeartbeats 1000000 in
theorem tbHas_yes (h : IsHt w b g xs) (j : Nat) (hj : j < xs.length) :
    Calls Try.prog 13 #[tbP b, .int .i64 j] w fun e w' => e = .returned (.bool true) ∧ w = w' := by
  have c0 := h.blk.cell 0
  simp only [List.getElem?_toArray, List.getElem?_cons_zero] at c0
  clear h
  go_enter Try.func13, Try.ntmps13
  go_wp2
  go_ret
  exact ⟨rfl, rfl⟩

set_option maxHeartbeats 1000000 in
theorem tbHas_no (h : IsHt w b g xs) (hn : x < 0 ∨ (xs.length : Int) ≤ x) :
    Calls Try.prog 13 #[tbP b, .int .i64 x] w fun e w' => e = .returned (.bool false) ∧ w = w' := by
  have c0 := h.blk.cell 0
  simp only [List.getElem?_toArray, List.getElem?_cons_zero] at c0
  clear h
  by_cases h0 : x < 0
  · clear hn
    go_enter Try.func13, Try.ntmps13
    go_wp2
    go_ret
    exact ⟨rfl, rfl⟩
  · have h1 : (xs.length : Int) ≤ x := by omega
    have d : decide (x < (xs.length : Int)) = false := decide_eq_false (by omega)
    clear hn
    go_enter Try.func13, Try.ntmps13
    go_wp2
    go_ret
    exact ⟨rfl, rfl⟩

set_option maxHeartbeats 1000000 in
theorem tbHas_nil : Calls Try.prog 13 #[.pointer none, .int .i64 x] w fun e w' => e = .returned (.bool false) ∧ w = w' := by
  go_enter Try.func13, Try.ntmps13
  go_wp2
  go_ret
  exact ⟨rfl, rfl⟩

set_option maxHeartbeats 1000000 in
theorem tbGet_yes (h : IsHt w b g xs) (j : Nat) (hx : xs[j]? = some x) :
    Calls Try.prog 8 #[tbP b, .int .i64 j] w fun e w' => e = .returned (.tuple #[.int .i64 x, .int .i64 0]) ∧ w = w' := by
  have hj : j < xs.length := (List.getElem?_eq_some_iff.1 hx).1
  have c0 := h.blk.cell 0
  simp only [List.getElem?_toArray, List.getElem?_cons_zero] at c0
  have c1 := h.row.ints_at hx
  have H := Lib.hid (tbHas_yes b g xs w h j hj)
  have j0 : (0 : Int) ≤ (j : Int) := by omega
  have j1 : (j : Int) < (xs.length : Int) := by omega
  clear h hx
  go_enter Try.func8, Try.ntmps8
  go_wp2_with fail
  refine H.out.mono ?_
  rintro e w1 ⟨rfl, rfl⟩
  go_wp2
  go_ret2
  exact ⟨rfl, rfl⟩

set_option maxHeartbeats 1000000 in
theorem tbGet_no (h : IsHt w b g xs) (hn : x < 0 ∨ (xs.length : Int) ≤ x) :
    Calls Try.prog 8 #[tbP b, .int .i64 x] w fun e w' => e = .returned (.tuple #[.int .i64 0, .int .i64 3]) ∧ w = w' := by
  have H := Lib.hid (tbHas_no b g xs x w h hn)
  clear h hn
  go_enter Try.func8, Try.ntmps8
  go_wp2_with fail
  refine H.out.mono ?_
  rintro e w1 ⟨rfl, rfl⟩
  go_wp2
  go_ret2
  exact ⟨rfl, rfl⟩

set_option maxHeartbeats 1000000 in
theorem tbGet_nil : Calls Try.prog 8 #[.pointer none, .int .i64 x] w fun e w' => e = .returned (.tuple #[.int .i64 0, .int .i64 3]) ∧ w = w' := by
  go_enter Try.func8, Try.ntmps8
  go_wp2_with fail
  refine (tbHas_nil x w).mono ?_
  rintro e w1 ⟨rfl, rfl⟩
  go_wp2
  go_ret2
  exact ⟨rfl, rfl⟩

set_option maxHeartbeats 1000000 in
theorem tbSet_yes (h : IsHt w b g xs) (j : Nat) (hj : j < xs.length) :
    Calls Try.prog 9 #[tbP b, .int .i64 j, .int .i64 x] w fun e w' => e = .returned (.int .i64 0) ∧ IsHt w' b g (xs.set j x) ∧ Frm (fun k => k = g) w w' := by
  have c0 := h.blk.cell 0
  simp only [List.getElem?_toArray, List.getElem?_cons_zero] at c0
  have c1 := h.row.ints_at (List.getElem?_eq_getElem hj)
  have cf := h.row.frozen j
  generalize xs[j] = y at c1
  have H := Lib.hid (tbHas_yes b g xs w h j hj)
  have HS := Lib.hid (h.set j x)
  have j0 : (0 : Int) ≤ (j : Int) := by omega
  have j1 : (j : Int) < (xs.length : Int) := by omega
  clear h
  go_enter Try.func9, Try.ntmps9
  go_wp2_with fail
  refine H.out.mono ?_
  rintro e w1 ⟨rfl, rfl⟩
  go_wp2
  go_ret
  exact ⟨rfl, HS.out, Frm.setCell (S := fun k => k = g) (Frm.refl _ _) (p := ⟨g, j, none⟩) (fun _ => rfl) _⟩

set_option maxHeartbeats 1000000 in
theorem tbSet_no (y : Int) (h : IsHt w b g xs) (hn : x < 0 ∨ (xs.length : Int) ≤ x) :
    Calls Try.prog 9 #[tbP b, .int .i64 x, .int .i64 y] w fun e w' => e = .returned (.int .i64 3) ∧ w = w' := by
  have H := Lib.hid (tbHas_no b g xs x w h hn)
  clear h hn
  go_enter Try.func9, Try.ntmps9
  go_wp2_with fail
  refine H.out.mono ?_
  rintro e w1 ⟨rfl, rfl⟩
  go_wp2
  go_ret
  exact ⟨rfl, rfl⟩

set_option maxHeartbeats 1000000 in
theorem tbSet_nil (y : Int) : Calls Try.prog 9 #[.pointer none, .int .i64 x, .int .i64 y] w fun e w' => e = .returned (.int .i64 3) ∧ w = w' := by
  go_enter Try.func9, Try.ntmps9
  go_wp2_with fail
  refine (tbHas_nil x w).mono ?_
  rintro e w1 ⟨rfl, rfl⟩
  go_wp2
  go_ret
  exact ⟨rfl, rfl⟩

set_option maxHeartbeats 1000000 in
theorem tbAll_any (h : IsHt w b g xs) :
    Calls Try.prog 11 #[tbP b] w fun e w' => ∃ A' c', e = .returned (.slice A' xs.length c') ∧ Qu w' A' xs.length c' xs ∧ Below w.heap.size w w' ∧ ∀ k, blkOf A' = some k → w.heap.size ≤ k := by
  have c0 := h.blk.cell 0
  simp only [List.getElem?_toArray, List.getElem?_cons_zero] at c0
  have H := Lib.hid (clone_qu _ _ _ xs w h.qu (Nat.le_trans h.few (by decide)))
  clear h
  go_enter Try.func11, Try.ntmps11
  go_wp2_with fail
  refine H.out.mono ?_
  rintro e w1 ⟨A', c', rfl, b1⟩
  have B := Lib.hid b1
  clear b1
  go_wp2
  go_ret
  exact ⟨A', c', rfl, B.out⟩

set_option maxHeartbeats 1000000 in
theorem tbAll_nil : Calls Try.prog 11 #[.pointer none] w fun e w' => e = .returned (.slice none 0 0) ∧ w = w' := by
  go_enter Try.func11, Try.ntmps11
  go_wp2
  go_ret
  exact ⟨rfl, rfl⟩
end
end Go.Proofs.Ytddgbhdfbkkfjaa

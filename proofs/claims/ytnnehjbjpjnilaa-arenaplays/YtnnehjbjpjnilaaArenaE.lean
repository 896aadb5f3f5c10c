/- Contracts over Int; the fixed fact; the walks of ArenaNone and ArenaSizes. -/
import Derived.Test.YtnnehjbjpjnilaaArenaD
namespace Go.Proofs.Ytnnehjbjpjnilaa
open Go.RowKit

section
variable (a b : Nat) (ws : List Int) (c : Int) (w : World) (h : IsAr w a b ws c) (hl : ws.length ≤ 1048576)
include h hl
theorem load_at (k x : Int) (h0 : 0 ≤ k) (hx : ws[k.toNat]? = some x) :
    Calls Try.prog 11 #[arP a, .int .i64 k] w fun e w' => e = .returned (.tuple #[.int .u64 x, .int .i64 0]) ∧ Turns a b ws (addC c 1) w w' := by
  have := load_yes a b ws c k.toNat x w h hl hx
  rwa [Int.toNat_of_nonneg h0] at this
theorem store_at (k x : Int) (h0 : 0 ≤ k) (hk : k.toNat < ws.length) :
    Calls Try.prog 12 #[arP a, .int .i64 k, .int .u64 x] w fun e w' => e = .returned (.int .i64 0) ∧ Turns a b (ws.set k.toNat x) (addC c 1) w w' := by
  have := store_yes a b ws c k.toNat x w h hl hk
  rwa [Int.toNat_of_nonneg h0] at this
theorem zero_at (k n : Int) (h0 : 0 ≤ k) (h1 : 0 ≤ n) (hk : k + n ≤ ws.length) :
    Calls Try.prog 14 #[arP a, .int .i64 k, .int .i64 n] w fun e w' => e = .returned (.int .i64 0) ∧ Turns a b (splice ws k.toNat (List.replicate n.toNat 0)) (addC c n) w w' := by
  have := zero_yes a b ws c k.toNat n.toNat w h hl (by omega)
  rwa [Int.toNat_of_nonneg h0, Int.toNat_of_nonneg h1] at this
theorem copy_at (x y n : Int) (h0 : 0 ≤ x) (h1 : 0 ≤ y) (h2 : 0 ≤ n) (hx : x + n ≤ ws.length) (hy : y + n ≤ ws.length) :
    Calls Try.prog 13 #[arP a, .int .i64 x, .int .i64 y, .int .i64 n] w fun e w' => e = .returned (.int .i64 0) ∧ Turns a b (splice ws y.toNat ((ws.drop x.toNat).take n.toNat)) (addC c (2 * n)) w w' := by
  have := copy_yes a b ws c x.toNat y.toNat n.toNat w h hl (by omega) (by omega)
  rwa [Int.toNat_of_nonneg h0, Int.toNat_of_nonneg h1, Int.toNat_of_nonneg h2] at this
end

theorem IsAr.to {w : World} {a b : Nat} {ws ws' : List Int} {c c' : Int} (h : IsAr w a b ws c) (e : ws = ws') (f : c = c') : IsAr w a b ws' c' := by subst e f; exact h

/-- What the fresh arena has done stays above what was there. -/
theorem below_turns {W w w' : World} {a b : Nat} {ws : List Int} {c : Int} (hb : Below W.heap.size W w) (t : Turns a b ws c w w') (ha : W.heap.size ≤ a) (hb' : W.heap.size ≤ b) : Below W.heap.size W w' :=
  Below.frm hb t.frm hb.size (fun k hk => by omega)

set_option maxHeartbeats 2000000 in
theorem awake_any (w : World) : Calls Try.prog 8 #[] w fun e w' => e = .returned (.bool true) ∧ Below w.heap.size w w' := by
  go_enter Try.func8, Try.ntmps8
  go_wp2_with fail
  refine (new_any _ _).mono ?_
  rintro e w1 ⟨rfl, i1, b1⟩
  replace i1 : IsAr w1 (w.heap.size + 1) w.heap.size [0, 0, 0, 0] 0 := i1
  go_wp2_with fail
  refine (store_at _ _ _ _ _ i1 (by decide) 1 7 (by decide) (by decide)).mono ?_
  rintro e w2 ⟨rfl, t2⟩
  have i2 : IsAr w2 (w.heap.size + 1) w.heap.size [0, 7, 0, 0] 1 := t2.is.to (by decide) (addC_in _ _ (by omega) (by omega))
  go_wp2_with fail
  refine (copy_at _ _ _ _ _ i2 (by decide) 0 1 3 (by decide) (by decide) (by decide) (by decide) (by decide)).mono ?_
  rintro e w3 ⟨rfl, t3⟩
  have i3 : IsAr w3 (w.heap.size + 1) w.heap.size [0, 0, 7, 0] 7 := t3.is.to (by decide) (addC_in _ _ (by omega) (by omega))
  go_wp2_with fail
  refine (load_at _ _ _ _ _ i3 (by decide) 2 7 (by decide) rfl).mono ?_
  rintro e w4 ⟨rfl, t4⟩
  have i4 : IsAr w4 (w.heap.size + 1) w.heap.size [0, 0, 7, 0] 8 := t4.is.to rfl (addC_in _ _ (by omega) (by omega))
  go_wp2_with fail
  refine (count_any _ _ _ _ _ i4).mono ?_
  rintro e w5 ⟨rfl, rfl⟩
  go_wp2_with fail
  refine (store_no _ _ _ _ 4 1 _ i4 (by decide) (by decide) (by decide)).mono ?_
  rintro e w5 ⟨rfl, rfl⟩
  go_wp2
  go_ret
  exact ⟨rfl, below_turns (below_turns (below_turns b1 t2 (by omega) (by omega)) t3 (by omega) (by omega)) t4 (by omega) (by omega)⟩

set_option maxHeartbeats 2000000 in
theorem arenaNone_walk (x n y : Int) (w : World) : Calls Try.prog 5 #[.int .i64 x, .int .i64 n, .int .u64 y] w fun e w' => e = .returned (.bool true) ∧ Below w.heap.size w w' := by
  go_enter Try.func5, Try.ntmps5
  go_wp2_with fail
  refine (load_nil _ _).mono ?_
  rintro e w1 ⟨rfl, rfl⟩
  go_wp2_with fail
  refine (awake_any _).mono ?_
  rintro e w1 ⟨rfl, b1⟩
  go_wp2_with fail
  refine (store_nil _ _ _).mono ?_
  rintro e w2 ⟨rfl, rfl⟩
  go_wp2_with fail
  refine (copy_nil _ _ _ _).mono ?_
  rintro e w2 ⟨rfl, rfl⟩
  go_wp2_with fail
  refine (zero_nil _ _ _).mono ?_
  rintro e w2 ⟨rfl, rfl⟩
  go_wp2_with fail
  refine (len_nil _).mono ?_
  rintro e w2 ⟨rfl, rfl⟩
  go_wp2_with fail
  refine (count_nil _).mono ?_
  rintro e w2 ⟨rfl, rfl⟩
  go_wp2
  go_ret
  exact ⟨rfl, b1⟩

set_option maxHeartbeats 4000000 in
theorem arenaSizes_walk (n : Int) (w : World) :
    Calls Try.prog 4 #[.int .i64 n] w fun e w' => e = .returned (.bool true) ∧ Below w.heap.size w w' := by
  by_cases h0 : n < 0
  · go_enter Try.func4, Try.ntmps4
    go_wp2_with fail
    refine (new_any _ _).mono ?_
    rintro e w1 ⟨rfl, i1, b1⟩
    have hlen : ((List.replicate (clampN (n)) (0 : Int)).length : Int) = 0 := by rw [List.length_replicate]; unfold clampN; omega
    generalize List.replicate (clampN (n)) (0 : Int) = ws at i1 hlen
    have HLEN := Lib.hid hlen
    have hl : ws.length ≤ 1048576 := by omega
    clear hlen
    go_wp2_with fail
    refine (load_no _ _ _ _ (0) _ i1 hl (by omega) ((hasB_no ..).2 (by have := HLEN.out; omega))).mono ?_
    rintro e w2 ⟨rfl, rfl⟩
    go_wp2_with fail
    refine (load_no _ _ _ _ (-1) _ i1 hl (by omega) ((hasB_no ..).2 (by omega))).mono ?_
    rintro e w2 ⟨rfl, rfl⟩
    have b2 := b1
    have i2 := i1
    go_wp2_with fail
    refine (awake_any _).mono ?_
    rintro e w3 ⟨rfl, b3⟩
    have i3 := i2.keep b3
    go_wp2_with fail
    refine (len_any _ _ _ _ _ i3).mono ?_
    rintro e w4 ⟨rfl, rfl⟩
    rw [HLEN.out]
    go_wp2_with fail
    refine (copy_at _ _ _ _ _ i3 hl 0 0 (0) (by omega) (by omega) (by omega) (by have := HLEN.out; omega) (by have := HLEN.out; omega)).mono ?_
    rintro e w4 ⟨rfl, t4⟩
    go_wp2
    go_ret
    exact ⟨rfl, below_turns (below_trans b2 b3) t4 (by omega) (by omega)⟩
  · by_cases h1 : n = 0
    · subst h1
      go_enter Try.func4, Try.ntmps4
      go_wp2_with fail
      refine (new_any _ _).mono ?_
      rintro e w1 ⟨rfl, i1, b1⟩
      have hlen : ((List.replicate (clampN (0)) (0 : Int)).length : Int) = 0 := by rw [List.length_replicate]; unfold clampN; omega
      generalize List.replicate (clampN (0)) (0 : Int) = ws at i1 hlen
      have HLEN := Lib.hid hlen
      have hl : ws.length ≤ 1048576 := by omega
      clear hlen
      go_wp2_with fail
      refine (load_no _ _ _ _ (0) _ i1 hl (by omega) ((hasB_no ..).2 (by have := HLEN.out; omega))).mono ?_
      rintro e w2 ⟨rfl, rfl⟩
      go_wp2_with fail
      refine (load_no _ _ _ _ (-1) _ i1 hl (by omega) ((hasB_no ..).2 (by omega))).mono ?_
      rintro e w2 ⟨rfl, rfl⟩
      have b2 := b1
      have i2 := i1
      go_wp2_with fail
      refine (awake_any _).mono ?_
      rintro e w3 ⟨rfl, b3⟩
      have i3 := i2.keep b3
      go_wp2_with fail
      refine (len_any _ _ _ _ _ i3).mono ?_
      rintro e w4 ⟨rfl, rfl⟩
      rw [HLEN.out]
      go_wp2_with fail
      refine (copy_at _ _ _ _ _ i3 hl 0 0 (0) (by omega) (by omega) (by omega) (by have := HLEN.out; omega) (by have := HLEN.out; omega)).mono ?_
      rintro e w4 ⟨rfl, t4⟩
      go_wp2
      go_ret
      exact ⟨rfl, below_turns (below_trans b2 b3) t4 (by omega) (by omega)⟩
    · by_cases h2 : n ≤ 1048576
      · go_enter Try.func4, Try.ntmps4
        go_wp2_with fail
        refine (new_any _ _).mono ?_
        rintro e w1 ⟨rfl, i1, b1⟩
        have hlen : ((List.replicate (clampN (n)) (0 : Int)).length : Int) = n := by rw [List.length_replicate]; unfold clampN; omega
        generalize List.replicate (clampN (n)) (0 : Int) = ws at i1 hlen
        have HLEN := Lib.hid hlen
        have hl : ws.length ≤ 1048576 := by omega
        clear hlen
        go_wp2_with fail
        refine (load_no _ _ _ _ (n) _ i1 hl (by omega) ((hasB_no ..).2 (by have := HLEN.out; omega))).mono ?_
        rintro e w2 ⟨rfl, rfl⟩
        go_wp2_with fail
        have hx := List.getElem?_eq_getElem (l := ws) (i := (n - 1 : Int).toNat) (by have := HLEN.out; omega)
        have HX := Lib.hid hx
        clear hx
        refine (load_at _ _ _ _ _ i1 hl (n - 1) _ (by omega) HX.out).mono ?_
        clear HX
        rintro e w2 ⟨rfl, t2⟩
        have b2 := below_turns b1 t2 (by omega) (by omega)
        have i2 := t2.is
        generalize ws[(n - 1 : Int).toNat]'_ = y0 at *
        go_wp2_with fail
        refine (awake_any _).mono ?_
        rintro e w3 ⟨rfl, b3⟩
        have i3 := i2.keep b3
        go_wp2_with fail
        refine (len_any _ _ _ _ _ i3).mono ?_
        rintro e w4 ⟨rfl, rfl⟩
        rw [HLEN.out]
        go_wp2_with fail
        refine (copy_at _ _ _ _ _ i3 hl 0 0 (n) (by omega) (by omega) (by omega) (by have := HLEN.out; omega) (by have := HLEN.out; omega)).mono ?_
        rintro e w4 ⟨rfl, t4⟩
        go_wp2
        go_ret
        exact ⟨rfl, below_turns (below_trans b2 b3) t4 (by omega) (by omega)⟩
      · go_enter Try.func4, Try.ntmps4
        go_wp2_with fail
        refine (new_any _ _).mono ?_
        rintro e w1 ⟨rfl, i1, b1⟩
        have hlen : ((List.replicate (clampN (n)) (0 : Int)).length : Int) = 1048576 := by rw [List.length_replicate]; unfold clampN; omega
        generalize List.replicate (clampN (n)) (0 : Int) = ws at i1 hlen
        have HLEN := Lib.hid hlen
        have hl : ws.length ≤ 1048576 := by omega
        clear hlen
        go_wp2_with fail
        refine (load_no _ _ _ _ (1048576) _ i1 hl (by omega) ((hasB_no ..).2 (by have := HLEN.out; omega))).mono ?_
        rintro e w2 ⟨rfl, rfl⟩
        go_wp2_with fail
        have hx := List.getElem?_eq_getElem (l := ws) (i := (1048575 : Int).toNat) (by have := HLEN.out; omega)
        have HX := Lib.hid hx
        clear hx
        refine (load_at _ _ _ _ _ i1 hl (1048575) _ (by omega) HX.out).mono ?_
        clear HX
        rintro e w2 ⟨rfl, t2⟩
        have b2 := below_turns b1 t2 (by omega) (by omega)
        have i2 := t2.is
        generalize ws[(1048575 : Int).toNat]'_ = y0 at *
        go_wp2_with fail
        refine (awake_any _).mono ?_
        rintro e w3 ⟨rfl, b3⟩
        have i3 := i2.keep b3
        go_wp2_with fail
        refine (len_any _ _ _ _ _ i3).mono ?_
        rintro e w4 ⟨rfl, rfl⟩
        rw [HLEN.out]
        go_wp2_with fail
        refine (copy_at _ _ _ _ _ i3 hl 0 0 (1048576) (by omega) (by omega) (by omega) (by have := HLEN.out; omega) (by have := HLEN.out; omega)).mono ?_
        rintro e w4 ⟨rfl, t4⟩
        go_wp2
        go_ret
        exact ⟨rfl, below_turns (below_trans b2 b3) t4 (by omega) (by omega)⟩
end Go.Proofs.Ytnnehjbjpjnilaa

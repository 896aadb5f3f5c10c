/- A buffer made since some world; the document's Ints; awake, BufNone. -/
import Derived.Test.YtpijkejddkjpiaaBufC
namespace Go.Proofs.Ytpijkejddkjpiaa
open Go.RowKit

/-- Block b is a buffer made since w0, with room for M, which holds xs; what there was is as it was. -/
structure Bs (w0 w : World) (b : Nat) (M : Int) (xs : List Int) : Prop where
  buf : ∃ A c, IsBuf w b M A xs.length c xs ∧ ∀ k, blkOf A = some k → w0.heap.size ≤ k
  b0 : w0.heap.size ≤ b
  bel : Below w0.heap.size w0 w

theorem Bs.keep {w0 w w' : World} {b : Nat} {M : Int} {xs : List Int} (h : Bs w0 w b M xs) (f : Below w.heap.size w w') : Bs w0 w' b M xs := by
  obtain ⟨⟨A, c, hb, hk⟩, b0, bel⟩ := h
  exact ⟨⟨A, c, hb.keep f, hk⟩, b0, below_trans bel f⟩

theorem Bs.turned {w0 w w' : World} {b n c n' c' : Nat} {M : Int} {A A' : Option Addr} {xs ys : List Int} (_ : IsBuf w b M A n c xs) (hk : ∀ k, blkOf A = some k → w0.heap.size ≤ k) (b0 : w0.heap.size ≤ b) (bel : Below w0.heap.size w0 w)
    (h' : IsBuf w' b M A' n' c' ys) (t : BufT b A A' w w') : Bs w0 w' b M ys := by
  obtain rfl : ys.length = n' := h'.row.len
  refine ⟨⟨A', c', h', fun k e => (t.at_ k e).elim (hk k) (fun h => Nat.le_trans bel.size h)⟩, b0, Below.frm bel t.frm bel.size ?_⟩
  rintro k hlt (rfl | e)
  · omega
  · have := hk k e
    omega

section
variable {w0 w : World} {b : Nat} {M : Int} {xs : List Int} {x : Int}

theorem bs_new (m : Int) (bel : Below w0.heap.size w0 w) :
    Calls Try.prog 8 #[.int .i64 m] w fun e w' => ∃ b, e = .returned (bfP b) ∧ Bs w0 w' b (cutI m 0 1048576) [] :=
  (bfNew_any m w).mono fun _ _ ⟨he, hb, bb⟩ => ⟨_, he, ⟨none, 0, hb, fun k e => by cases e⟩, bel.size, below_trans bel bb⟩

theorem bs_put_yes (h : Bs w0 w b M xs) (hn : (xs.length : Int) < M) (x : Int) :
    Calls Try.prog 10 #[bfP b, .int .i64 x] w fun e w' => e = .returned (.bool true) ∧ Bs w0 w' b M (xs ++ [x]) := by
  obtain ⟨⟨A, c, hb, hk⟩, b0, bel⟩ := h
  exact (bfPut_yes b M A _ c xs x w hb hn).mono fun _ _ ⟨he, A', c', h', t⟩ => ⟨he, Bs.turned hb hk b0 bel h' t⟩

theorem bs_put_no (h : Bs w0 w b M xs) (hn : M ≤ xs.length) (x : Int) :
    Calls Try.prog 10 #[bfP b, .int .i64 x] w fun e w' => e = .returned (.bool false) ∧ Bs w0 w' b M xs := by
  obtain ⟨A, c, hb, hk⟩ := h.buf
  exact (bfPut_no b M A _ c xs x w hb hn).mono fun _ _ ⟨he, bb⟩ => ⟨he, h.keep bb⟩

theorem bs_take_yes (h : Bs w0 w b M (x :: xs)) :
    Calls Try.prog 9 #[bfP b] w fun e w' => e = .returned (.tuple #[.int .i64 x, .bool true]) ∧ Bs w0 w' b M xs := by
  obtain ⟨⟨A, c, hb, hk⟩, b0, bel⟩ := h
  exact (bfTake_yes b M A xs.length c xs x w hb).mono fun _ _ ⟨he, A', c', h', t⟩ => ⟨he, Bs.turned hb hk b0 bel h' t⟩

theorem bs_take_no (h : Bs w0 w b M []) :
    Calls Try.prog 9 #[bfP b] w fun e w' => e = .returned (.tuple #[.int .i64 0, .bool false]) ∧ w = w' := by
  obtain ⟨A, c, hb, hk⟩ := h.buf
  exact bfTake_no b M A c w hb

theorem bs_len (h : Bs w0 w b M xs) : Calls Try.prog 11 #[bfP b] w fun e w' => e = .returned (.int .i64 xs.length) ∧ w = w' := by
  obtain ⟨A, c, hb, hk⟩ := h.buf
  exact bfLen_any b M A _ c xs w hb

theorem bs_all (h : Bs w0 w b M xs) :
    Calls Try.prog 13 #[bfP b] w fun e w' => ∃ A' c', e = .returned (.slice A' xs.length c') ∧ Qu w' A' xs.length c' xs ∧ Below w.heap.size w w' := by
  obtain ⟨A, c, hb, hk⟩ := h.buf
  exact (bfAll_any b M A _ c xs w hb).mono fun _ _ ⟨A', c', he, q, bb, _⟩ => ⟨A', c', he, q, bb⟩
end

set_option maxHeartbeats 1000000 in
/-- Two slices with the same numbers. -/
theorem ints_qu (A1 A2 : Option Addr) (n c1 c2 : Nat) (xs : List Int) (w : World) (h1 : Qu w A1 n c1 xs) (h2 : Qu w A2 n c2 xs) (few : n ≤ 1048576) :
    Calls Try.prog 12 #[.slice A1 n c1, .slice A2 n c2] w fun e w' => e = .returned (.bool true) ∧ Below w.heap.size w w' := by
  have H1 := Lib.hid h1
  have H2 := Lib.hid h2
  have HL := Lib.hid h1.len
  clear h1 h2
  go_enter Try.func12, Try.ntmps12
  go_wp2_with fail
  go_loopw [5] (fun s wr => ∃ j m : Nat, j ≤ n ∧ s = .int .i64 j ∧ wr = w.drewN m) (fun s _ => n - (intOf s).toNat)
  case atStart => exact ⟨0, 0, Nat.zero_le _, rfl, rfl⟩
  case round =>
    obtain ⟨j, m, hj, rfl, rfl⟩ := hrel
    by_cases hlt : j < n
    · have hy : xs[j]? = some (xs[j]'(by have := HL.out; omega)) := List.getElem?_eq_getElem _
      generalize xs[j]'(by have := HL.out; omega) = y at hy
      obtain ⟨g1, o1, rfl, _, d1, _⟩ := H1.out.at_ (by omega)
      obtain ⟨g2, o2, rfl, _, d2, _⟩ := H2.out.at_ (by omega)
      have x1 := d1 j y hy
      have x2 := d2 j y hy
      have j0 : (0 : Int) ≤ (j : Int) := by omega
      have j1 : (j : Int) < (n : Int) := by omega
      clear d1 d2 hy
      go_wp2_with fail
      go_quiet (fail)
      go_wp2
      go_roundw
      case rel => exact ⟨j + 1, _, by omega, by go_num, rfl⟩
      case measure => simp [intOf]; omega
    · obtain rfl : j = n := by omega
      go_wp2
      go_ret
      exact ⟨rfl, below_drewN _ _⟩

set_option maxHeartbeats 4000000 in
theorem bfAwake_walk (w : World) : Calls Try.prog 14 #[] w fun e w' => e = .returned (.bool true) ∧ Below w.heap.size w w' := by
  go_enter Try.func14, Try.ntmps14
  go_wp2_with fail
  refine (bs_new 2 (Below.refl _ w)).mono ?_
  rintro e w1 ⟨b, rfl, s⟩
  have H : Hid (Bs w w1 b 2 []) := Lib.hid s
  clear s
  unfold bfP
  go_wp2_with fail
  refine (bs_put_yes H.out (by decide) 5).mono ?_
  rintro e w2 ⟨rfl, s⟩
  have H : Hid (Bs w w2 b 2 [5]) := Lib.hid s
  clear s
  go_wp2_with fail
  refine (bs_put_yes H.out (by decide) 7).mono ?_
  rintro e w3 ⟨rfl, s⟩
  have H : Hid (Bs w w3 b 2 [5, 7]) := Lib.hid s
  clear s
  go_wp2_with fail
  refine (bs_put_no H.out (by decide) 9).mono ?_
  rintro e w4 ⟨rfl, s⟩
  have H : Hid (Bs w w4 b 2 [5, 7]) := Lib.hid s
  clear s
  go_wp2_with fail
  refine (bs_take_yes H.out).mono ?_
  rintro e w5 ⟨rfl, s⟩
  have H : Hid (Bs w w5 b 2 [7]) := Lib.hid s
  clear s
  go_wp2_with fail
  refine (bs_len H.out).mono ?_
  rintro e w6 ⟨rfl, rfl⟩
  go_wp2_with fail
  refine (bs_all H.out).mono ?_
  rintro e w6 ⟨A', c', rfl, q, bb⟩
  have H := Lib.hid ((H.out.keep bb).keep ((Below.refl _ _).alloc (Nat.le_refl _) (.cells #[.int .i64 7] 3)))
  have Q := Lib.hid (q.keep ((Below.refl _ _).alloc (Nat.le_refl _) (.cells #[.int .i64 7] 3)))
  clear q bb
  go_wp2_with fail
  refine (ints_qu _ _ _ _ _ _ _ Q.out (Qu.one w6 7) (by decide)).mono ?_
  rintro e w7 ⟨rfl, bb⟩
  have H := Lib.hid (H.out.keep bb)
  clear bb Q
  go_wp2_with fail
  refine (bs_put_yes H.out (by decide) 8).mono ?_
  rintro e w8 ⟨rfl, s⟩
  have B := Lib.hid s.bel
  clear s H
  go_wp2
  go_ret
  exact ⟨rfl, B.out⟩

set_option maxHeartbeats 4000000 in
theorem bufNone_walk (n : Int) (w : World) : Calls Try.prog 4 #[.int .i64 n] w fun e w' => e = .returned (.bool true) ∧ Below w.heap.size w w' := by
  go_enter Try.func4, Try.ntmps4
  go_wp2_with fail
  refine (bfTake_nil w).mono ?_
  rintro e w1 ⟨rfl, rfl⟩
  go_wp2_with fail
  refine (bfAwake_walk w).mono ?_
  rintro e w1 ⟨rfl, bb⟩
  have B := Lib.hid bb
  clear bb
  go_wp2_with fail
  refine (bfPut_nil n w1).mono ?_
  rintro e w2 ⟨rfl, rfl⟩
  go_wp2_with fail
  refine (bfLen_nil w1).mono ?_
  rintro e w2 ⟨rfl, rfl⟩
  go_wp2_with fail
  refine (bfAll_nil w1).mono ?_
  rintro e w2 ⟨rfl, rfl⟩
  go_wp2
  go_ret
  exact ⟨rfl, B.out⟩
end Go.Proofs.Ytpijkejddkjpiaa

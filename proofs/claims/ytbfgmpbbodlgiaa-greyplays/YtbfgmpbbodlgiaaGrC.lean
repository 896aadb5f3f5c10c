/- A stack made since some world, with blocks beside it that it leaves; awake, GreyNone. -/
import Derived.Test.YtbfgmpbbodlgiaaGrB
import Derived.Test.YtbfgmpbbodlgiaaIntsQ
import Derived.Test.YtbfgmpbbodlgiaaKpQ
namespace Go.Proofs.Ytbfgmpbbodlgiaa
open Go.RowKit

/-- Block b is a stack made since w0; no block of Z is its own; what there was is as it was. -/
structure Gz (w0 w : World) (Z : Nat → Prop) (b : Nat) (M : Int) (l : Bool) (xs : List Int) : Prop where
  is : ∃ A c, IsGr w b M l A xs.length c xs ∧ ∀ k, (k = b ∨ blkOf A = some k) → w0.heap.size ≤ k ∧ ¬ Z k
  bel : Below w0.heap.size w0 w
  low : ∀ k, Z k → w0.heap.size ≤ k ∧ k < w.heap.size

theorem IsGr.own_lt {w : World} {b : Nat} {M : Int} {l : Bool} {A : Option Addr} {n c : Nat} {xs : List Int} (h : IsGr w b M l A n c xs) {k : Nat} (hk : k = b ∨ blkOf A = some k) : k < w.heap.size := by
  rcases hk with rfl | e
  · exact h.lt
  · exact h.row.lt e

section
variable {w0 w w' : World} {Z Z' : Nat → Prop} {b : Nat} {M : Int} {l : Bool} {xs : List Int} {x : Int}

theorem Gz.keep (h : Gz w0 w Z b M l xs) (f : Below w.heap.size w w') : Gz w0 w' Z b M l xs := by
  obtain ⟨A, c, hp, ho⟩ := h.is
  exact ⟨⟨A, c, hp.keep f, ho⟩, below_trans h.bel f, fun k hk => ⟨(h.low k hk).1, Nat.lt_of_lt_of_le (h.low k hk).2 f.size⟩⟩

/-- What is beside it has been written to; new blocks may be beside it. -/
theorem Gz.write {S : Nat → Prop} (h : Gz w0 w Z b M l xs) (f : Frm S w w') (hs : ∀ k, k < w.heap.size → S k → Z k) (hz : ∀ k, Z' k → Z k ∨ (w.heap.size ≤ k ∧ k < w'.heap.size)) : Gz w0 w' Z' b M l xs := by
  obtain ⟨A, c, hp, ho⟩ := h.is
  refine ⟨⟨A, c, hp.frm f (fun e => (ho b (.inl rfl)).2 (hs b hp.lt e)) (fun k hk e => (ho k (.inr hk)).2 (hs k (hp.row.lt hk) e)), fun k hk => ⟨(ho k hk).1, fun e => ?_⟩⟩, Below.frm h.bel f h.bel.size (fun k hk e => ?_), fun k hk => ?_⟩
  · rcases hz k e with e | e
    · exact (ho k hk).2 e
    · have := hp.own_lt hk; omega
  · have := (h.low k (hs k (Nat.lt_of_lt_of_le hk h.bel.size) e)).1; omega
  · rcases hz k hk with e | e
    · exact ⟨(h.low k e).1, Nat.lt_of_lt_of_le (h.low k e).2 f.size⟩
    · exact ⟨Nat.le_trans h.bel.size e.1, e.2⟩

/-- New blocks are beside it. -/
theorem Gz.grow (h : Gz w0 w Z b M l xs) (f : Below w.heap.size w w') (hz : ∀ k, Z' k → Z k ∨ (w.heap.size ≤ k ∧ k < w'.heap.size)) : Gz w0 w' Z' b M l xs :=
  h.write (S := fun _ => False) (Frm.of_below f) (fun _ _ e => e.elim) hz

theorem Gz.step {A A' : Option Addr} {c n' c' : Nat} {l' : Bool} {ys : List Int} (h : Gz w0 w Z b M l xs) (_ : IsGr w b M l A xs.length c xs) (ho : ∀ k, (k = b ∨ blkOf A = some k) → w0.heap.size ≤ k ∧ ¬ Z k)
    (hp' : IsGr w' b M l' A' n' c' ys) (t : GrT b A A' w w') : Gz w0 w' Z b M l' ys ∧ Kp Z w w' := by
  obtain rfl : ys.length = n' := hp'.row.len
  refine ⟨⟨⟨A', c', hp', fun k hk => ?_⟩, Below.frm h.bel t.frm h.bel.size (fun k hk e => by have := (ho k e).1; omega), fun k hk => ⟨(h.low k hk).1, Nat.lt_of_lt_of_le (h.low k hk).2 t.frm.size⟩⟩, t.frm.mono fun i _ e => (ho i e).2⟩
  rcases hk with rfl | e
  · exact ho k (.inl rfl)
  · rcases t.at_ k e with e1 | e1
    · exact ho k (.inr e1)
    · exact ⟨Nat.le_trans h.bel.size e1, fun z => by have := (h.low k z).2; omega⟩

theorem Gz.few (h : Gz w0 w Z b M l xs) : 0 ≤ M ∧ M ≤ 1048576 ∧ (xs.length : Int) ≤ M := by
  obtain ⟨A, c, hp, _⟩ := h.is
  exact ⟨hp.m0, hp.m1, hp.few⟩

theorem gz_new (m : Int) (bel : Below w0.heap.size w0 w) (low : ∀ k, Z k → w0.heap.size ≤ k ∧ k < w.heap.size) :
    Calls Try.prog 7 #[.int .i64 m] w fun e w' => ∃ b, e = .returned (grP b) ∧ Gz w0 w' Z b (cutI m 0 1048576) false [] ∧ Kp Z w w' :=
  (grNew_any m w).mono fun _ _ ⟨he, hb, bb⟩ => ⟨_, he, ⟨⟨none, 0, hb, fun k e => by
    rcases e with rfl | e
    · exact ⟨bel.size, fun z => by have := (low _ z).2; omega⟩
    · cases e⟩, below_trans bel bb, fun k hk => ⟨(low k hk).1, Nat.lt_of_lt_of_le (low k hk).2 bb.size⟩⟩, Kp.of_below bb⟩

theorem gz_push_yes (h : Gz w0 w Z b M l xs) (hn : (xs.length : Int) < M) (x : Int) :
    Calls Try.prog 8 #[grP b, .int .i64 x] w fun e w' => e = .returned (.bool true) ∧ Gz w0 w' Z b M l (xs ++ [x]) ∧ Kp Z w w' := by
  obtain ⟨A, c, hp, ho⟩ := h.is
  exact (grPush_yes b M l A _ c xs x w hp hn).mono fun _ _ ⟨he, A', c', h', t⟩ => ⟨he, h.step hp ho h' t⟩

theorem gz_push_no (h : Gz w0 w Z b M l xs) (hn : M ≤ xs.length) (x : Int) :
    Calls Try.prog 8 #[grP b, .int .i64 x] w fun e w' => e = .returned (.bool false) ∧ Gz w0 w' Z b M true xs ∧ Kp Z w w' := by
  obtain ⟨A, c, hp, ho⟩ := h.is
  exact (grPush_no b M l A _ c xs x w hp hn).mono fun _ _ ⟨he, h', t⟩ => ⟨he, h.step hp ho h' t⟩

theorem gz_pop_yes (h : Gz w0 w Z b M l (xs ++ [x])) :
    Calls Try.prog 9 #[grP b] w fun e w' => e = .returned (.tuple #[.int .i64 x, .bool true]) ∧ Gz w0 w' Z b M l xs ∧ Kp Z w w' := by
  obtain ⟨A, c, hp, ho⟩ := h.is
  have hl : (xs ++ [x]).length = xs.length + 1 := by simp
  exact (grPop_yes b M l A xs.length c xs x w (hl ▸ hp)).mono fun _ _ ⟨he, h', t⟩ => ⟨he, h.step hp ho h' t⟩

theorem gz_pop_no (h : Gz w0 w Z b M l []) :
    Calls Try.prog 9 #[grP b] w fun e w' => e = .returned (.tuple #[.int .i64 0, .bool false]) ∧ w = w' := by
  obtain ⟨A, c, hp, ho⟩ := h.is
  exact grPop_no b M l A c w hp

theorem gz_lost (h : Gz w0 w Z b M l xs) : Calls Try.prog 12 #[grP b] w fun e w' => e = .returned (.bool l) ∧ w = w' := by
  obtain ⟨A, c, hp, ho⟩ := h.is
  exact grLost_any b M l A _ c xs w hp

theorem gz_found (h : Gz w0 w Z b M l xs) : Calls Try.prog 10 #[grP b] w fun e w' => e = .returned (.tuple #[]) ∧ Gz w0 w' Z b M false xs ∧ Kp Z w w' := by
  obtain ⟨A, c, hp, ho⟩ := h.is
  exact (grFound_any b M l A _ c xs w hp).mono fun _ _ ⟨he, h', t⟩ => ⟨he, h.step hp ho h' t⟩

theorem gz_len (h : Gz w0 w Z b M l xs) : Calls Try.prog 13 #[grP b] w fun e w' => e = .returned (.int .i64 xs.length) ∧ w = w' := by
  obtain ⟨A, c, hp, ho⟩ := h.is
  exact grLen_any b M l A _ c xs w hp

theorem gz_all (h : Gz w0 w Z b M l xs) :
    Calls Try.prog 15 #[grP b] w fun e w' => ∃ A' c', e = .returned (.slice A' xs.length c') ∧ Qu w' A' xs.length c' xs ∧ Below w.heap.size w w' := by
  obtain ⟨A, c, hp, ho⟩ := h.is
  exact (grAll_any b M l A _ c xs w hp).mono fun _ _ ⟨A', c', he, q, bb, _⟩ => ⟨A', c', he, q, bb⟩

/-- A list beside the stack, or as old as w0, is put there. -/
theorem gz_put {ys : List Int} {L : Option Addr} {m d : Nat} (h : Gz w0 w Z b M l xs) (rd : Rd .i64 w L m ys) (hm : m ≤ maxLen) (far : 0 < m → ∀ ad, L = some ad → ad.block < w0.heap.size ∨ Z ad.block) :
    Calls Try.prog 11 #[grP b, .slice L m d] w fun e w' => e = .returned (.tuple #[]) ∧ Gz w0 w' Z b M (l || decide (M < (m : Int))) (ys.take M.toNat) ∧ Kp Z w w' := by
  obtain ⟨A, c, hp, ho⟩ := h.is
  refine (grPut_any b M l A _ c xs ys L m d w hp rd hm (fun m0 ad e => ?_)).mono fun _ _ ⟨he, A', n', c', h', t⟩ => ⟨he, h.step hp ho h' t⟩
  rcases far m0 ad e with f | f
  · exact ⟨fun e => by have := (ho _ (.inl e)).1; omega, fun e => by have := (ho _ (.inr e)).1; omega⟩
  · exact ⟨fun e => (ho _ (.inl e)).2 f, fun e => (ho _ (.inr e)).2 f⟩
end

theorem noZ_low {a c : Nat} : ∀ k, noZ k → a ≤ k ∧ k < c := fun _ h => h.elim

/-- A slice that was just made, as a list. -/
theorem rd_new {k : IntKind} (w : World) (xs : List Int) (t : TypeId) : Rd k (w.alloc (.cells (xs.map (Value.int k)).toArray t)) (some ⟨w.heap.size, 0, none⟩) xs.length xs :=
  ⟨rfl, fun i x hx => ⟨_, rfl, by simp, by rw [Addr.add_lit, Nat.zero_add, (Blk.new w _ t).cell]; simp [hx]⟩⟩

theorem qu_new (w : World) (xs : List Int) (h : xs.length ≤ maxLen) : Qu (w.alloc (.cells (xs.map (Value.int .i64)).toArray 3)) (some ⟨w.heap.size, 0, none⟩) xs.length xs.length xs :=
  ⟨rfl, Nat.le_refl _, h, .inr ⟨w.heap.size, 0, _, rfl, Blk.new w _ _, by simp, fun i x hx => by simp [hx]⟩⟩

set_option maxHeartbeats 4000000 in
theorem grAwake_walk (w : World) : Calls Try.prog 16 #[] w fun e w' => e = .returned (.bool true) ∧ Below w.heap.size w w' := by
  go_enter Try.func16, Try.ntmps16
  go_wp2_with fail
  refine (gz_new (Z := noZ) 2 (Below.refl _ w) noZ_low).mono ?_
  rintro e w1 ⟨b, rfl, s, _⟩
  have H : Hid (Gz w w1 noZ b 2 false []) := Lib.hid s
  clear s
  unfold grP
  go_wp2_with fail
  refine (gz_push_yes H.out (by decide) 4).mono ?_
  rintro e w2 ⟨rfl, s, _⟩
  have H : Hid (Gz w w2 noZ b 2 false [4]) := Lib.hid s
  clear s
  go_wp2_with fail
  refine (gz_push_yes H.out (by decide) 6).mono ?_
  rintro e w3 ⟨rfl, s, _⟩
  have H : Hid (Gz w w3 noZ b 2 false ([4] ++ [6])) := Lib.hid s
  clear s
  go_wp2_with fail
  refine (gz_push_no H.out (by decide) 8).mono ?_
  rintro e w4 ⟨rfl, s, _⟩
  have H := Lib.hid s
  clear s
  go_wp2_with fail
  refine (gz_lost H.out).mono ?_
  rintro e w5 ⟨rfl, rfl⟩
  go_wp2_with fail
  refine (gz_found H.out).mono ?_
  rintro e w5 ⟨rfl, s, _⟩
  have H := Lib.hid s
  clear s
  go_wp2_with fail
  refine (gz_pop_yes H.out).mono ?_
  rintro e w6 ⟨rfl, s, _⟩
  have H := Lib.hid (s.grow (Z' := fun k => k = w6.heap.size) ((Below.refl _ _).alloc (Nat.le_refl _) (.cells #[.int .i64 1, .int .i64 2, .int .i64 3] 3)) (fun k e => .inr (by subst e; simp)))
  have R := Lib.hid (rd_new (k := .i64) w6 [1, 2, 3] 3)
  clear s
  go_wp2_with fail
  refine (gz_put H.out R.out (by decide) (fun _ ad e => .inr (by cases e; rfl))).mono ?_
  rintro e w7 ⟨rfl, s, _⟩
  have H : Hid (Gz w w7 (fun k => k = w6.heap.size) b 2 true [1, 2]) := Lib.hid s
  clear s R
  go_wp2_with fail
  refine (gz_lost H.out).mono ?_
  rintro e w8 ⟨rfl, rfl⟩
  go_wp2_with fail
  refine (gz_all H.out).mono ?_
  rintro e w8 ⟨A', c', rfl, q, bb⟩
  have H := Lib.hid ((H.out.keep bb).keep ((Below.refl _ _).alloc (Nat.le_refl _) (.cells #[.int .i64 1, .int .i64 2] 3)))
  have Q := Lib.hid (q.keep ((Below.refl _ _).alloc (Nat.le_refl _) (.cells #[.int .i64 1, .int .i64 2] 3)))
  clear q bb
  go_wp2_with fail
  refine (ints_qu _ _ _ _ _ _ _ Q.out (qu_new w8 [1, 2] (by decide)) (by decide)).mono ?_
  rintro e w9 ⟨rfl, bb⟩
  have H := Lib.hid (H.out.keep bb)
  clear bb Q
  go_wp2_with fail
  refine (gz_len H.out).mono ?_
  rintro e w10 ⟨rfl, rfl⟩
  go_wp2
  go_ret
  exact ⟨rfl, H.out.bel⟩

set_option maxHeartbeats 4000000 in
theorem greyNone_walk (n : Int) (w : World) : Calls Try.prog 4 #[.int .i64 n] w fun e w' => e = .returned (.bool true) ∧ Below w.heap.size w w' := by
  go_enter Try.func4, Try.ntmps4
  go_wp2_with fail
  refine (grFound_nil w).mono ?_
  rintro e w1 ⟨rfl, rfl⟩
  go_wp2_with fail
  refine (grPut_nil _ _ _ _).mono ?_
  rintro e w1 ⟨rfl, rfl⟩
  go_wp2_with fail
  refine (grPop_nil _).mono ?_
  rintro e w1 ⟨rfl, rfl⟩
  go_wp2_with fail
  refine (grAwake_walk _).mono ?_
  rintro e w1 ⟨rfl, bb⟩
  have B := Lib.hid (below_alloc_trans _ bb)
  clear bb
  go_wp2_with fail
  refine (grPush_nil n w1).mono ?_
  rintro e w2 ⟨rfl, rfl⟩
  go_wp2_with fail
  refine (grLost_nil w1).mono ?_
  rintro e w2 ⟨rfl, rfl⟩
  go_wp2_with fail
  refine (grLen_nil w1).mono ?_
  rintro e w2 ⟨rfl, rfl⟩
  go_wp2_with fail
  refine (grAll_nil w1).mono ?_
  rintro e w2 ⟨rfl, rfl⟩
  go_wp2
  go_ret
  exact ⟨rfl, B.out⟩
end Go.Proofs.Ytbfgmpbbodlgiaa

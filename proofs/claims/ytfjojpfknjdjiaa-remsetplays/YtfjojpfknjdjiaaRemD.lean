/- A set made since some world, with blocks beside it that it leaves; all calls of none; awake, RemsetNone. -/
import Derived.Test.YtfjojpfknjdjiaaRemC
namespace Go.Proofs.Ytfjojpfknjdjiaa
open Go.RowKit

/-- Block s is a set made since w0; no block of Z is its own; what there was is as it was. -/
structure Rz (w0 w : World) (Z : Nat → Prop) (s : Nat) (M F W C : Int) (xs : List Int) (ms : List Bool) (ys : List Int) (ns : List Bool) : Prop where
  is : ∃ p, IsSet w s p M F W C xs ms ys ns ∧ ∀ k, p.own s k → w0.heap.size ≤ k ∧ ¬ Z k
  bel : Below w0.heap.size w0 w
  low : ∀ k, Z k → w0.heap.size ≤ k ∧ k < w.heap.size

/-- Blocks of Z are as they were. -/
def Kp (Z : Nat → Prop) (w w' : World) : Prop := Frm (fun k => ¬ Z k) w w'

theorem Kp.of_below {Z : Nat → Prop} {w w' : World} (h : Below w.heap.size w w') : Kp Z w w' := Frm.of_below h
theorem Kp.trans {Z : Nat → Prop} {a b c : World} (h : Kp Z a b) (k : Kp Z b c) : Kp Z a c := Frm.trans h k fun _ _ e => e
theorem Blk.kp {Z : Nat → Prop} {w w' : World} {b : Nat} {cs : Array Value} {t : TypeId} (h : Blk w b cs t) (k : Kp Z w w') (hz : Z b) : Blk w' b cs t := h.frm k fun e => e hz
theorem Qu.kp {Z : Nat → Prop} {w w' : World} {A : Option Addr} {n c : Nat} {xs : List Int} (h : Qu w A n c xs) (k : Kp Z w w') (hz : ∀ k, blkOf A = some k → Z k) : Qu w' A n c xs := h.frm k fun j hj e => e (hz j hj)

section
variable {w0 w w' : World} {Z Z' : Nat → Prop} {s : Nat} {M F W C : Int} {xs ys : List Int} {ms ns : List Bool}

theorem Rz.keep (h : Rz w0 w Z s M F W C xs ms ys ns) (f : Below w.heap.size w w') : Rz w0 w' Z s M F W C xs ms ys ns := by
  obtain ⟨p, hp, ho⟩ := h.is
  exact ⟨⟨p, hp.keep f, ho⟩, below_trans h.bel f, fun k hk => ⟨(h.low k hk).1, Nat.lt_of_lt_of_le (h.low k hk).2 f.size⟩⟩

/-- New blocks are beside it. -/
theorem Rz.grow (h : Rz w0 w Z s M F W C xs ms ys ns) (f : Below w.heap.size w w') (hz : ∀ k, Z' k → Z k ∨ (w.heap.size ≤ k ∧ k < w'.heap.size)) : Rz w0 w' Z' s M F W C xs ms ys ns := by
  obtain ⟨p, hp, ho⟩ := h.is
  refine ⟨⟨p, hp.keep f, fun k hk => ⟨(ho k hk).1, fun e => ?_⟩⟩, below_trans h.bel f, fun k hk => ?_⟩
  · rcases hz k e with e | e
    · exact (ho k hk).2 e
    · have := hp.lt hk; omega
  · rcases hz k hk with e | e
    · exact ⟨(h.low k e).1, Nat.lt_of_lt_of_le (h.low k e).2 f.size⟩
    · exact ⟨Nat.le_trans h.bel.size e.1, e.2⟩

/-- What is beside it has been written to. -/
theorem Rz.write {S : Nat → Prop} (h : Rz w0 w Z s M F W C xs ms ys ns) (f : Frm S w w') (hs : ∀ k, k < w.heap.size → S k → Z k) (hz : ∀ k, Z' k → Z k ∨ (w.heap.size ≤ k ∧ k < w'.heap.size)) : Rz w0 w' Z' s M F W C xs ms ys ns := by
  obtain ⟨p, hp, ho⟩ := h.is
  refine ⟨⟨p, hp.frm f fun k hk e => (ho k hk).2 (hs k (hp.lt hk) e), fun k hk => ⟨(ho k hk).1, fun e => ?_⟩⟩, Below.frm h.bel f h.bel.size (fun k hk e => ?_), fun k hk => ?_⟩
  · rcases hz k e with e | e
    · exact (ho k hk).2 e
    · have := hp.lt hk; omega
  · have := (h.low k (hs k (Nat.lt_of_lt_of_le hk h.bel.size) e)).1; omega
  · rcases hz k hk with e | e
    · exact ⟨(h.low k e).1, Nat.lt_of_lt_of_le (h.low k e).2 f.size⟩
    · exact ⟨Nat.le_trans h.bel.size e.1, e.2⟩

theorem Rz.step {us vs : List Int} {ks js : List Bool} {p : Pt} (_ : IsSet w s p M F W C xs ms ys ns) (ho : ∀ k, p.own s k → w0.heap.size ≤ k ∧ ¬ Z k) (bel : Below w0.heap.size w0 w) (low : ∀ k, Z k → w0.heap.size ≤ k ∧ k < w.heap.size)
    (h' : ∃ p', IsSet w' s p' M F W C us ks vs js ∧ Mv (p.own s) (p'.own s) w w') : Rz w0 w' Z s M F W C us ks vs js ∧ Kp Z w w' := by
  obtain ⟨p', hp', mv⟩ := h'
  refine ⟨⟨⟨p', hp', fun k hk => ?_⟩, Below.frm bel mv.frm bel.size (fun k hk e => by have := (ho k e).1; omega), fun k hk => ⟨(low k hk).1, Nat.lt_of_lt_of_le (low k hk).2 mv.frm.size⟩⟩, mv.frm.mono fun i _ e => (ho i e).2⟩
  rcases mv.at_ k hk with e | e
  · exact ho k e
  · exact ⟨Nat.le_trans bel.size e, fun z => by have := (low k z).2; omega⟩

/-- What is told of a set's numbers. -/
theorem Rz.facts (h : Rz w0 w Z s M F W C xs ms ys ns) : (0 ≤ F ∧ F ≤ 1048576 ∧ 0 ≤ W ∧ W ≤ 1048576 ∧ 1 ≤ C ∧ C ≤ 1048576 ∧ 0 ≤ M ∧ M ≤ 1048576) ∧ ((ms.length : Int) = (W + C - 1) / C ∧ (ns.length : Int) = (W + C - 1) / C) ∧ ((xs.length : Int) ≤ M ∧ (ys.length : Int) ≤ M) := by
  obtain ⟨p, hp, ho⟩ := h.is
  obtain ⟨mb, tb, _⟩ := hp.look.tab
  obtain ⟨mb2, tb2, _⟩ := hp.rest.tab
  obtain ⟨A, c, bf, _⟩ := hp.look.buf
  exact ⟨⟨tb.f0, tb.f1, tb.w0, tb.w1, tb.c0, tb.c1, bf.m0, bf.m1⟩, ⟨tb.len, tb2.len⟩, hp.look.room, hp.rest.room⟩
theorem Rz.xin (h : Rz w0 w Z s M F W C xs ms ys ns) : ∀ x ∈ xs, F ≤ x ∧ x < F + W := by obtain ⟨p, hp, ho⟩ := h.is; exact hp.xin
theorem Rz.yin (h : Rz w0 w Z s M F W C xs ms ys ns) : ∀ x ∈ ys, F ≤ x ∧ x < F + W := by obtain ⟨p, hp, ho⟩ := h.is; exact hp.yin

/-- A place's card. -/
theorem Rz.at_ (h : Rz w0 w Z s M F W C xs ms ys ns) {x : Int} (x0 : F ≤ x) (x1 : x < F + W) : 0 ≤ (x - F) / C ∧ (x - F) / C < ns.length := by
  obtain ⟨p, hp, ho⟩ := h.is
  obtain ⟨mb2, tb2, _⟩ := hp.rest.tab
  exact tb2.at_ x0 x1
/-- A card's place. -/
theorem Rz.part (h : Rz w0 w Z s M F W C xs ms ys ns) {n : Int} (n0 : 0 ≤ n) (n1 : n < ms.length) : 0 ≤ n * C ∧ n * C < W := by
  obtain ⟨p, hp, ho⟩ := h.is
  obtain ⟨mb, tb, _⟩ := hp.look.tab
  exact tb.part n0 n1

theorem rz_new (f n c m : Int) (bel : Below w0.heap.size w0 w) (low : ∀ k, Z k → w0.heap.size ≤ k ∧ k < w.heap.size) :
    Calls Try.prog 8 #[.int .i64 f, .int .i64 n, .int .i64 c, .int .i64 m] w fun e w' => ∃ s, e = .returned (ptr s) ∧
      Rz w0 w' Z s (cutI m 0 1048576) (cutI f 0 1048576) (cutI n 0 1048576) (cutI c 1 1048576) [] (List.replicate (nmI (cutI n 0 1048576) (cutI c 1 1048576)) false) [] (List.replicate (nmI (cutI n 0 1048576) (cutI c 1 1048576)) false) ∧ Kp Z w w' :=
  (set_new w f n c m).mono fun e w' ⟨s, p, he, hp, b, hk⟩ => ⟨s, he, ⟨⟨p, hp, fun k hk' => ⟨Nat.le_trans bel.size (hk k hk'), fun z => by have := (low k z).2; have := hk k hk'; omega⟩⟩, below_trans bel b, fun k hk => ⟨(low k hk).1, Nat.lt_of_lt_of_le (low k hk).2 b.size⟩⟩, Kp.of_below b⟩

theorem rz_left (h : Rz w0 w Z s M F W C xs ms ys ns) :
    Calls Try.prog 9 #[ptr s] w fun e w' => e = .returned (.int .i64 (xs.length + ms.count true : Nat)) ∧ Rz w0 w' Z s M F W C xs ms ys ns ∧ Kp Z w w' := by
  obtain ⟨p, hp, ho⟩ := h.is
  exact (set_left s p M F W C xs ys ms ns w hp).mono fun e w' ⟨he, b⟩ => ⟨he, h.keep b, Kp.of_below b⟩

theorem rz_len (h : Rz w0 w Z s M F W C xs ms ys ns) :
    Calls Try.prog 10 #[ptr s] w fun e w' => e = .returned (.int .i64 (ys.length + ns.count true : Nat)) ∧ Rz w0 w' Z s M F W C xs ms ys ns ∧ Kp Z w w' := by
  obtain ⟨p, hp, ho⟩ := h.is
  exact (set_len s p M F W C xs ys ms ns w hp).mono fun e w' ⟨he, b⟩ => ⟨he, h.keep b, Kp.of_below b⟩

theorem rz_add_no (x : Int) (h : Rz w0 w Z s M F W C xs ms ys ns) (hx : ¬ (F ≤ x ∧ x < F + W)) :
    Calls Try.prog 11 #[ptr s, .int .i64 x] w fun e w' => e = .returned (.bool false) ∧ w = w' := by
  obtain ⟨p, hp, ho⟩ := h.is
  exact set_add_no s p M F W C xs ys ms ns w x hp hx

theorem rz_add_put (x : Int) (h : Rz w0 w Z s M F W C xs ms ys ns) (x0 : F ≤ x) (x1 : x < F + W) (hn : (ys.length : Int) < M) :
    Calls Try.prog 11 #[ptr s, .int .i64 x] w fun e w' => e = .returned (.bool true) ∧ Rz w0 w' Z s M F W C xs ms (ys ++ [x]) ns ∧ Kp Z w w' := by
  obtain ⟨p, hp, ho⟩ := h.is
  exact (set_add_put s p M F W C xs ys ms ns w x hp x0 x1 hn).mono fun e w' ⟨he, h'⟩ => ⟨he, Rz.step hp ho h.bel h.low h'⟩

theorem rz_add_mark (x : Int) (j : Nat) (h : Rz w0 w Z s M F W C xs ms ys ns) (x0 : F ≤ x) (x1 : x < F + W) (hn : M ≤ ys.length) (hj : (x - F) / C = j) :
    Calls Try.prog 11 #[ptr s, .int .i64 x] w fun e w' => e = .returned (.bool true) ∧ Rz w0 w' Z s M F W C xs ms ys (ns.set j true) ∧ Kp Z w w' := by
  obtain ⟨p, hp, ho⟩ := h.is
  exact (set_add_mark s p M F W C xs ys ms ns w x j hp x0 x1 hn hj).mono fun e w' ⟨he, h'⟩ => ⟨he, Rz.step hp ho h.bel h.low h'⟩

theorem rz_flip_no (h : Rz w0 w Z s M F W C xs ms ys ns) (hn : 0 < xs.length + ms.count true) :
    Calls Try.prog 12 #[ptr s] w fun e w' => e = .returned (.bool false) ∧ Rz w0 w' Z s M F W C xs ms ys ns ∧ Kp Z w w' := by
  obtain ⟨p, hp, ho⟩ := h.is
  exact (set_flip_no s p M F W C xs ys ms ns w hp hn).mono fun e w' ⟨he, b⟩ => ⟨he, h.keep b, Kp.of_below b⟩

theorem rz_flip_yes (h : Rz w0 w Z s M F W C xs ms ys ns) (hn : xs.length + ms.count true = 0) :
    Calls Try.prog 12 #[ptr s] w fun e w' => e = .returned (.bool true) ∧ Rz w0 w' Z s M F W C ys ns [] (List.replicate (nmI W C) false) ∧ Kp Z w w' := by
  obtain ⟨p, hp, ho⟩ := h.is
  obtain rfl : xs = [] := List.eq_nil_of_length_eq_zero (by omega)
  exact (set_flip_yes s p M F W C ys ms ns w hp (by omega)).mono fun e w' ⟨he, h'⟩ => ⟨he, Rz.step hp ho h.bel h.low h'⟩

theorem rz_next_buf (x : Int) (h : Rz w0 w Z s M F W C (x :: xs) ms ys ns) :
    Calls Try.prog 13 #[ptr s] w fun e w' => e = .returned (.tuple #[.int .i64 x, .int .i64 (x + 1), .bool false, .bool true]) ∧ Rz w0 w' Z s M F W C xs ms ys ns ∧ Kp Z w w' := by
  obtain ⟨p, hp, ho⟩ := h.is
  exact (set_next_buf s p M F W C xs ys ms ns w x hp).mono fun e w' ⟨he, h'⟩ => ⟨he, Rz.step hp ho h.bel h.low h'⟩

theorem rz_next_card (j : Nat) (h : Rz w0 w Z s M F W C [] ms ys ns) (hj : ms[j]? = some true) (hn : ∀ i : Nat, i < j → ms[i]? = some false) :
    Calls Try.prog 13 #[ptr s] w fun e w' => e = .returned (.tuple #[.int .i64 (F + j * C), .int .i64 (endI F W C j), .bool true, .bool true]) ∧ Rz w0 w' Z s M F W C [] (ms.set j false) ys ns ∧ Kp Z w w' := by
  obtain ⟨p, hp, ho⟩ := h.is
  exact (set_next_card s p M F W C ys ms ns w j hp hj hn).mono fun e w' ⟨he, h'⟩ => ⟨he, Rz.step hp ho h.bel h.low h'⟩

theorem rz_next_none (h : Rz w0 w Z s M F W C xs ms ys ns) (hn : xs.length + ms.count true = 0) :
    Calls Try.prog 13 #[ptr s] w fun e w' => e = .returned (.tuple #[.int .i64 0, .int .i64 0, .bool false, .bool false]) ∧ Rz w0 w' Z s M F W C xs ms ys ns ∧ Kp Z w w' := by
  obtain ⟨p, hp, ho⟩ := h.is
  obtain rfl : xs = [] := List.eq_nil_of_length_eq_zero (by omega)
  have h0 : ∀ i : Nat, ms[i]? ≠ some true := fun i e => by
    have := List.count_eq_zero.1 (show ms.count true = 0 by omega)
    exact this (List.mem_of_getElem? e)
  exact (set_next_none s p M F W C ys ms ns w hp h0).mono fun e w' ⟨he, b⟩ => ⟨he, h.keep b, Kp.of_below b⟩
end

/-- The first that is set. -/
theorem first_true {ms : List Bool} (h : 0 < ms.count true) : ∃ j : Nat, j < ms.length ∧ ms[j]? = some true ∧ ∀ i : Nat, i < j → ms[i]? = some false := by
  induction ms with
  | nil => simp at h
  | cons x ms ih =>
    cases x
    · obtain ⟨j, hl, hj, hn⟩ := ih (by simpa using h)
      refine ⟨j + 1, by simp; omega, by simpa using hj, fun i hi => ?_⟩
      cases i with
      | zero => rfl
      | succ i => simpa using hn i (by omega)
    · exact ⟨0, by simp, rfl, fun i hi => by omega⟩

section
variable (w : World)
set_option maxHeartbeats 1000000 in
theorem left_nil : Calls Try.prog 9 #[.pointer none] w fun e w' => e = .returned (.int .i64 0) ∧ w = w' := by
  go_enter Try.func9, Try.ntmps9
  go_wp2
  go_ret
  exact ⟨rfl, rfl⟩
set_option maxHeartbeats 1000000 in
theorem len_nil : Calls Try.prog 10 #[.pointer none] w fun e w' => e = .returned (.int .i64 0) ∧ w = w' := by
  go_enter Try.func10, Try.ntmps10
  go_wp2
  go_ret
  exact ⟨rfl, rfl⟩
set_option maxHeartbeats 1000000 in
theorem add_nil (x : Int) : Calls Try.prog 11 #[.pointer none, .int .i64 x] w fun e w' => e = .returned (.bool false) ∧ w = w' := by
  go_enter Try.func11, Try.ntmps11
  go_wp2
  go_ret
  exact ⟨rfl, rfl⟩
set_option maxHeartbeats 1000000 in
theorem flip_nil : Calls Try.prog 12 #[.pointer none] w fun e w' => e = .returned (.bool false) ∧ w = w' := by
  go_enter Try.func12, Try.ntmps12
  go_wp2
  go_ret
  exact ⟨rfl, rfl⟩
set_option maxHeartbeats 1000000 in
theorem next_nil : Calls Try.prog 13 #[.pointer none] w fun e w' => e = .returned (.tuple #[.int .i64 0, .int .i64 0, .bool false, .bool false]) ∧ w = w' := by
  go_enter Try.func13, Try.ntmps13
  go_wp2
  (try simp only [Exit.inBlock, Exit.then])
  refine bodyPost_ret (results_tmp4 rfl _ _ _) rfl ?_
  exact ⟨rfl, rfl⟩
end

/-- Nothing is beside it. -/
abbrev noZ : Nat → Prop := fun _ => False
end Go.Proofs.Ytfjojpfknjdjiaa

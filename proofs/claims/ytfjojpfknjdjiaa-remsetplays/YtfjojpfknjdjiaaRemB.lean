/- The program's set in memory; contracts of Left, Len, Add, Next, Flip, New; of none, too. -/
import Derived.Test.YtfjojpfknjdjiaaRemA
import Derived.Deep.RegionWith
namespace Go.Proofs.Ytfjojpfknjdjiaa
open Go.RowKit

/-- What a set's block holds, and where its sides lie. -/
structure Pt where
  (X Y m f n c : Int)
  (k0 k1 k2 k3 b1 t1 b2 t2 : Nat)
  (S1 S2 : Nat → Prop)

/-- The blocks of a set. -/
def Pt.own (p : Pt) (s : Nat) (k : Nat) : Prop := k = s ∨ k = p.k0 ∨ k = p.k1 ∨ k = p.k2 ∨ k = p.k3 ∨ p.S1 k ∨ p.S2 k

abbrev fnV (k0 k1 k2 k3 : Nat) : Value := .func (.func 23) #[] #[ptr k0, ptr k1, ptr k2, ptr k3]

/-- Block s is a set: xs and ms are to be looked at, ys and ns are beside them. -/
structure IsSet (w : World) (s : Nat) (p : Pt) (M F W C : Int) (xs : List Int) (ms : List Bool) (ys : List Int) (ns : List Bool) : Prop where
  blk : Blk w s #[.int .i64 p.X, .int .i64 p.Y, fnV p.k0 p.k1 p.k2 p.k3, bfP p.b1, tbP p.t1, bfP p.b2, tbP p.t2] 54
  caps : Caps w p.k0 p.k1 p.k2 p.k3 p.m p.f p.n p.c
  room : cutI p.m 0 1048576 = M
  from_ : cutI p.f 0 1048576 = F
  words : cutI p.n 0 1048576 = W
  card : cutI p.c 1 1048576 = C
  in_ : ∀ x, (p.X ≤ x ∧ x < p.Y) ↔ (F ≤ x ∧ x < F + W)
  look : Sd w p.b1 p.t1 p.S1 M F W C xs ms
  rest : Sd w p.b2 p.t2 p.S2 M F W C ys ns
  two : ∀ k, p.S1 k → ¬ p.S2 k
  one : ∀ k, (p.S1 k ∨ p.S2 k) → k ≠ s ∧ k ≠ p.k0 ∧ k ≠ p.k1 ∧ k ≠ p.k2 ∧ k ≠ p.k3
  xin : ∀ x ∈ xs, F ≤ x ∧ x < F + W
  yin : ∀ x ∈ ys, F ≤ x ∧ x < F + W

section
variable {w w' : World} {s : Nat} {p : Pt} {M F W C : Int} {xs ys : List Int} {ms ns : List Bool}

theorem IsSet.lt (h : IsSet w s p M F W C xs ms ys ns) {k : Nat} (hk : p.own s k) : k < w.heap.size := by
  rcases hk with rfl | rfl | rfl | rfl | rfl | hk | hk
  · exact h.blk.lt
  · exact h.caps.b0.lt
  · exact h.caps.b1.lt
  · exact h.caps.b2.lt
  · exact h.caps.b3.lt
  · exact h.look.lt _ hk
  · exact h.rest.lt _ hk

theorem IsSet.frm {S : Nat → Prop} (h : IsSet w s p M F W C xs ms ys ns) (f : Frm S w w') (hs : ∀ k, p.own s k → ¬ S k) : IsSet w' s p M F W C xs ms ys ns :=
  { h with
    blk := h.blk.frm f (hs _ (.inl rfl))
    caps := h.caps.frm f (hs _ (.inr (.inl rfl))) (hs _ (.inr (.inr (.inl rfl)))) (hs _ (.inr (.inr (.inr (.inl rfl))))) (hs _ (.inr (.inr (.inr (.inr (.inl rfl))))))
    look := h.look.frm f fun k hk => hs k (.inr (.inr (.inr (.inr (.inr (.inl hk))))))
    rest := h.rest.frm f fun k hk => hs k (.inr (.inr (.inr (.inr (.inr (.inr hk)))))) }

theorem IsSet.keep (h : IsSet w s p M F W C xs ms ys ns) (f : Below w.heap.size w w') : IsSet w' s p M F W C xs ms ys ns := h.frm (S := fun _ => False) (Frm.of_below f) fun _ _ e => e

theorem IsSet.seven (h : IsSet w s p M F W C xs ms ys ns) :
    w.cell? ⟨s, 0, none⟩ = some (.int .i64 p.X) ∧ w.cell? ⟨s, 1, none⟩ = some (.int .i64 p.Y) ∧ w.cell? ⟨s, 2, none⟩ = some (fnV p.k0 p.k1 p.k2 p.k3) ∧ w.cell? ⟨s, 3, none⟩ = some (bfP p.b1) ∧ w.cell? ⟨s, 4, none⟩ = some (tbP p.t1) ∧ w.cell? ⟨s, 5, none⟩ = some (bfP p.b2) ∧ w.cell? ⟨s, 6, none⟩ = some (tbP p.t2) ∧
    (∀ i, w.frozen? ⟨s, i, none⟩ = false) := h.blk.seven

theorem IsSet.new (h : IsSet w s p M F W C xs ms ys ns) {k : Nat} (hk : w.heap.size ≤ k) : k ≠ s ∧ k ≠ p.k0 ∧ k ≠ p.k1 ∧ k ≠ p.k2 ∧ k ≠ p.k3 := by
  have := h.blk.lt
  have := h.caps.b0.lt
  have := h.caps.b1.lt
  have := h.caps.b2.lt
  have := h.caps.b3.lt
  omega

/-- What is to be looked at has turned. -/
theorem IsSet.lookT {S' : Nat → Prop} {us : List Int} {ks : List Bool} (h : IsSet w s p M F W C xs ms ys ns) (sd : Sd w' p.b1 p.t1 S' M F W C us ks) (mv : Mv p.S1 S' w w') (hin : ∀ x ∈ us, F ≤ x ∧ x < F + W) :
    ∃ p', IsSet w' s p' M F W C us ks ys ns ∧ Mv (p.own s) (p'.own s) w w' := by
  have o := fun k (hk : p.S1 k) => h.one k (.inl hk)
  have new : ∀ k, S' k → p.S1 k ∨ w.heap.size ≤ k := mv.at_
  refine ⟨{ p with S1 := S' }, { h with blk := ?_, caps := ?_, look := sd, rest := h.rest.frm mv.frm fun k hk hn => h.two k hn hk, two := ?_, one := ?_, xin := hin }, ?_, ?_⟩
  · exact h.blk.frm mv.frm fun e => (o _ e).1 rfl
  · exact h.caps.frm mv.frm (fun e => (o _ e).2.1 rfl) (fun e => (o _ e).2.2.1 rfl) (fun e => (o _ e).2.2.2.1 rfl) (fun e => (o _ e).2.2.2.2 rfl)
  · intro k hk h2
    rcases new k hk with e | e
    · exact h.two k e h2
    · have := h.rest.lt k h2; omega
  · rintro k (hk | hk)
    · rcases new k hk with e | e
      · exact o k e
      · exact h.new e
    · exact h.one k (.inr hk)
  · exact mv.frm.mono fun i _ e => .inr (.inr (.inr (.inr (.inr (.inl e)))))
  · rintro k (e | e | e | e | e | e | e)
    · exact .inl (.inl e)
    · exact .inl (.inr (.inl e))
    · exact .inl (.inr (.inr (.inl e)))
    · exact .inl (.inr (.inr (.inr (.inl e))))
    · exact .inl (.inr (.inr (.inr (.inr (.inl e)))))
    · exact (new k e).imp (fun e => .inr (.inr (.inr (.inr (.inr (.inl e)))))) id
    · exact .inl (.inr (.inr (.inr (.inr (.inr (.inr e))))))

/-- What is beside it has turned. -/
theorem IsSet.restT {S' : Nat → Prop} {us : List Int} {ks : List Bool} (h : IsSet w s p M F W C xs ms ys ns) (sd : Sd w' p.b2 p.t2 S' M F W C us ks) (mv : Mv p.S2 S' w w') (hin : ∀ x ∈ us, F ≤ x ∧ x < F + W) :
    ∃ p', IsSet w' s p' M F W C xs ms us ks ∧ Mv (p.own s) (p'.own s) w w' := by
  have o := fun k (hk : p.S2 k) => h.one k (.inr hk)
  have new : ∀ k, S' k → p.S2 k ∨ w.heap.size ≤ k := mv.at_
  refine ⟨{ p with S2 := S' }, { h with blk := ?_, caps := ?_, look := h.look.frm mv.frm h.two, rest := sd, two := ?_, one := ?_, yin := hin }, ?_, ?_⟩
  · exact h.blk.frm mv.frm fun e => (o _ e).1 rfl
  · exact h.caps.frm mv.frm (fun e => (o _ e).2.1 rfl) (fun e => (o _ e).2.2.1 rfl) (fun e => (o _ e).2.2.2.1 rfl) (fun e => (o _ e).2.2.2.2 rfl)
  · intro k hk h2
    rcases new k h2 with e | e
    · exact h.two k hk e
    · have := h.look.lt k hk; omega
  · rintro k (hk | hk)
    · exact h.one k (.inl hk)
    · rcases new k hk with e | e
      · exact o k e
      · exact h.new e
  · exact mv.frm.mono fun i _ e => .inr (.inr (.inr (.inr (.inr (.inr e)))))
  · rintro k (e | e | e | e | e | e | e)
    · exact .inl (.inl e)
    · exact .inl (.inr (.inl e))
    · exact .inl (.inr (.inr (.inl e)))
    · exact .inl (.inr (.inr (.inr (.inl e))))
    · exact .inl (.inr (.inr (.inr (.inr (.inl e)))))
    · exact .inl (.inr (.inr (.inr (.inr (.inr (.inl e))))))
    · exact (new k e).imp (fun e => .inr (.inr (.inr (.inr (.inr (.inr e)))))) id

/-- How the turn is made: what was beside is to be looked at; a fresh side is beside it. -/
theorem IsSet.turn {w1 : World} {b t : Nat} (h : IsSet w s p M F W C xs ms ys ns) (b1 : Below w.heap.size w w1) (fr : Fresh w w1 b t p.m p.f p.n p.c)
    (k : Blk w' s #[.int .i64 p.X, .int .i64 p.Y, fnV p.k0 p.k1 p.k2 p.k3, bfP p.b2, tbP p.t2, bfP b, tbP t] 54) (f : Frm (· = s) w1 w') :
    ∃ p', IsSet w' s p' M F W C ys ns [] (List.replicate (nmI W C) false) ∧ Mv (p.own s) (p'.own s) w w' := by
  have fr1 : Sd w1 b t (fun k => w.heap.size ≤ k ∧ k < w1.heap.size) M F W C [] (List.replicate (nmI W C) false) := by
    have := fr
    unfold Fresh at this
    rw [h.room, h.from_, h.words, h.card] at this
    exact this
  have ls := h.blk.lt
  have l0 := h.caps.b0.lt
  have l1 := h.caps.b1.lt
  have l2 := h.caps.b2.lt
  have l3 := h.caps.b3.lt
  refine ⟨{ p with b1 := p.b2, t1 := p.t2, S1 := p.S2, b2 := b, t2 := t, S2 := fun k => w.heap.size ≤ k ∧ k < w1.heap.size }, ⟨k, ?_, h.room, h.from_, h.words, h.card, h.in_, ?_, ?_, ?_, ?_, h.yin, fun x hx => by cases hx⟩, ?_, ?_⟩
  · exact (h.caps.keep b1).frm f (Blk.ne_ h.caps.b0 h.blk (by decide)) (Blk.ne_ h.caps.b1 h.blk (by decide)) (Blk.ne_ h.caps.b2 h.blk (by decide)) (Blk.ne_ h.caps.b3 h.blk (by decide))
  · exact (h.rest.keep b1).frm f fun j hj e => (h.one j (.inr hj)).1 e
  · exact fr1.frm f fun j hj e => by have := hj.1; omega
  · intro j hj h2
    have := h.rest.lt j hj
    have := h2.1
    omega
  · rintro j (hj | ⟨hj, _⟩)
    · exact h.one j (.inr hj)
    · exact h.new hj
  · exact (Frm.of_below (S := p.own s) b1).trans f fun i _ e => .inl e
  · rintro j (e | e | e | e | e | e | ⟨e, _⟩)
    · exact .inl (.inl e)
    · exact .inl (.inr (.inl e))
    · exact .inl (.inr (.inr (.inl e)))
    · exact .inl (.inr (.inr (.inr (.inl e))))
    · exact .inl (.inr (.inr (.inr (.inr (.inl e)))))
    · exact .inl (.inr (.inr (.inr (.inr (.inr (.inr e))))))
    · exact .inr e
end

theorem ne_fn (fn : Fn) (cap : Array Value) (v : World) : Sem.run Try.prog (binOp .neq 47 (.func fn #[] cap) .nilFunc) v = .ok (.bool true) v := rfl

section
variable (s : Nat) (p : Pt) (M F W C : Int) (xs ys : List Int) (ms ns : List Bool) (w : World)

set_option maxHeartbeats 2000000 in
theorem set_left (h : IsSet w s p M F W C xs ms ys ns) :
    Calls Try.prog 9 #[ptr s] w fun e w' => e = .returned (.int .i64 (xs.length + ms.count true : Nat)) ∧ Below w.heap.size w w' := by
  obtain ⟨c0, c1, c2, c3, c4, c5, c6, cf⟩ := h.seven
  have H := Lib.hid (sd_count _ _ _ M F W C xs ms w h.look)
  unfold sdV bfP tbP ptr fnV at *
  clear h c0 c1 c2 c5 c6 cf
  go_enter Try.func9, Try.ntmps9
  go_wp2_with fail
  refine H.out.mono ?_
  rintro e w1 ⟨rfl, b1⟩
  have B := Lib.hid b1
  clear b1
  go_wp2
  go_ret
  exact ⟨rfl, B.out⟩

set_option maxHeartbeats 2000000 in
theorem set_len (h : IsSet w s p M F W C xs ms ys ns) :
    Calls Try.prog 10 #[ptr s] w fun e w' => e = .returned (.int .i64 (ys.length + ns.count true : Nat)) ∧ Below w.heap.size w w' := by
  obtain ⟨c0, c1, c2, c3, c4, c5, c6, cf⟩ := h.seven
  have H := Lib.hid (sd_count _ _ _ M F W C ys ns w h.rest)
  unfold sdV bfP tbP ptr fnV at *
  clear h c0 c1 c2 c3 c4 cf
  go_enter Try.func10, Try.ntmps10
  go_wp2_with fail
  refine H.out.mono ?_
  rintro e w1 ⟨rfl, b1⟩
  have B := Lib.hid b1
  clear b1
  go_wp2
  go_ret
  exact ⟨rfl, B.out⟩

set_option maxHeartbeats 2000000 in
theorem set_add_no (x : Int) (h : IsSet w s p M F W C xs ms ys ns) (hx : ¬ (F ≤ x ∧ x < F + W)) :
    Calls Try.prog 11 #[ptr s, .int .i64 x] w fun e w' => e = .returned (.bool false) ∧ w = w' := by
  obtain ⟨c0, c1, c2, c3, c4, c5, c6, cf⟩ := h.seven
  rw [← h.in_ x] at hx
  obtain ⟨X, eX⟩ : ∃ X, p.X = X := ⟨_, rfl⟩
  obtain ⟨Y, eY⟩ : ∃ Y, p.Y = Y := ⟨_, rfl⟩
  rw [eX] at c0 hx
  rw [eY] at c1 hx
  clear h c2 c3 c4 c5 c6 cf eX eY
  unfold ptr
  by_cases h0 : x < X
  · have d0 : decide (x < X) = true := decide_eq_true h0
    clear hx
    go_enter Try.func11, Try.ntmps11
    go_wp2
    go_ret
    exact ⟨rfl, rfl⟩
  · have h1 : Y ≤ x := by omega
    have d0 : decide (x < X) = false := decide_eq_false h0
    have d1 : decide (Y ≤ x) = true := decide_eq_true h1
    clear hx
    go_enter Try.func11, Try.ntmps11
    go_wp2
    go_ret
    exact ⟨rfl, rfl⟩

set_option maxHeartbeats 2000000 in
theorem set_add_put (x : Int) (h : IsSet w s p M F W C xs ms ys ns) (x0 : F ≤ x) (x1 : x < F + W) (hn : (ys.length : Int) < M) :
    Calls Try.prog 11 #[ptr s, .int .i64 x] w fun e w' => e = .returned (.bool true) ∧ ∃ p', IsSet w' s p' M F W C xs ms (ys ++ [x]) ns ∧ Mv (p.own s) (p'.own s) w w' := by
  obtain ⟨c0, c1, c2, c3, c4, c5, c6, cf⟩ := h.seven
  obtain ⟨y0, y1⟩ := (h.in_ x).2 ⟨x0, x1⟩
  have H := Lib.hid (sd_put _ _ _ M F W C ys ns w x h.rest hn)
  have K := Lib.hid (fun w' S' sd mv => h.restT (w' := w') (S' := S') (us := ys ++ [x]) (ks := ns) sd mv (fun z hz => by
    rcases List.mem_append.1 hz with hz | hz
    · exact h.yin z hz
    · rw [List.mem_singleton] at hz; subst hz; exact ⟨x0, x1⟩))
  obtain ⟨X, eX⟩ : ∃ X, p.X = X := ⟨_, rfl⟩
  obtain ⟨Y, eY⟩ : ∃ Y, p.Y = Y := ⟨_, rfl⟩
  rw [eX] at c0 y0
  rw [eY] at c1 y1
  unfold sdV bfP tbP ptr fnV at *
  clear h c2 c3 c4 cf eX eY x0 x1 hn
  have d0 : decide (x < X) = false := decide_eq_false (by omega)
  have d1 : decide (Y ≤ x) = false := decide_eq_false (by omega)
  go_enter Try.func11, Try.ntmps11
  go_wp2_with fail
  refine H.out.mono ?_
  rintro e w1 ⟨rfl, S', sd, mv⟩
  have R := Lib.hid (K.out _ _ sd mv)
  clear sd mv K H
  go_wp2
  go_ret
  exact ⟨rfl, R.out⟩

set_option maxHeartbeats 2000000 in
theorem set_add_mark (x : Int) (j : Nat) (h : IsSet w s p M F W C xs ms ys ns) (x0 : F ≤ x) (x1 : x < F + W) (hn : M ≤ ys.length) (hj : (x - F) / C = j) :
    Calls Try.prog 11 #[ptr s, .int .i64 x] w fun e w' => e = .returned (.bool true) ∧ ∃ p', IsSet w' s p' M F W C xs ms ys (ns.set j true) ∧ Mv (p.own s) (p'.own s) w w' := by
  obtain ⟨c0, c1, c2, c3, c4, c5, c6, cf⟩ := h.seven
  obtain ⟨y0, y1⟩ := (h.in_ x).2 ⟨x0, x1⟩
  have H := Lib.hid (sd_mark _ _ _ M F W C ys ns w x j h.rest hn x0 x1 hj)
  have K := Lib.hid (fun w' S' sd mv => h.restT (w' := w') (S' := S') (us := ys) (ks := ns.set j true) sd mv h.yin)
  obtain ⟨X, eX⟩ : ∃ X, p.X = X := ⟨_, rfl⟩
  obtain ⟨Y, eY⟩ : ∃ Y, p.Y = Y := ⟨_, rfl⟩
  rw [eX] at c0 y0
  rw [eY] at c1 y1
  unfold sdV bfP tbP ptr fnV at *
  clear h c2 c3 c4 cf eX eY x0 x1 hn hj
  have d0 : decide (x < X) = false := decide_eq_false (by omega)
  have d1 : decide (Y ≤ x) = false := decide_eq_false (by omega)
  go_enter Try.func11, Try.ntmps11
  go_wp2_with fail
  refine H.out.mono ?_
  rintro e w1 ⟨rfl, S', sd, mv⟩
  have R := Lib.hid (K.out _ _ sd mv)
  clear sd mv K H
  go_wp2
  go_ret
  exact ⟨rfl, R.out⟩

set_option maxHeartbeats 2000000 in
theorem set_next_buf (x : Int) (h : IsSet w s p M F W C (x :: xs) ms ys ns) :
    Calls Try.prog 13 #[ptr s] w fun e w' => e = .returned (.tuple #[.int .i64 x, .int .i64 (x + 1), .bool false, .bool true]) ∧ ∃ p', IsSet w' s p' M F W C xs ms ys ns ∧ Mv (p.own s) (p'.own s) w w' := by
  obtain ⟨c0, c1, c2, c3, c4, c5, c6, cf⟩ := h.seven
  have hx := h.xin x List.mem_cons_self
  obtain ⟨mb, tb, _⟩ := h.look.tab
  have f0 := tb.f0
  have f1 := tb.f1
  have w1 := tb.w1
  have H := Lib.hid (sd_next_buf _ _ _ M F W C xs ms w x (by omega) (by omega) h.look)
  have K := Lib.hid (fun w' S' sd mv => h.lookT (w' := w') (S' := S') (us := xs) (ks := ms) sd mv (fun z hz => h.xin z (List.mem_cons_of_mem _ hz)))
  unfold sdV bfP tbP ptr fnV at *
  clear h c0 c1 c2 c5 c6 cf hx tb f0 f1 w1
  go_enter Try.func13, Try.ntmps13
  go_wp2_with fail
  refine H.out.mono ?_
  rintro e w1 ⟨rfl, S', sd, mv⟩
  have R := Lib.hid (K.out _ _ sd mv)
  clear sd mv K H
  go_wp2
  (try simp only [Exit.inBlock, Exit.then])
  refine bodyPost_ret (results_tmp4 rfl _ _ _) rfl ?_
  exact ⟨rfl, R.out⟩

set_option maxHeartbeats 2000000 in
theorem set_next_card (j : Nat) (h : IsSet w s p M F W C [] ms ys ns) (hj : ms[j]? = some true) (hn : ∀ i : Nat, i < j → ms[i]? = some false) :
    Calls Try.prog 13 #[ptr s] w fun e w' => e = .returned (.tuple #[.int .i64 (F + j * C), .int .i64 (endI F W C j), .bool true, .bool true]) ∧ ∃ p', IsSet w' s p' M F W C [] (ms.set j false) ys ns ∧ Mv (p.own s) (p'.own s) w w' := by
  obtain ⟨c0, c1, c2, c3, c4, c5, c6, cf⟩ := h.seven
  have H := Lib.hid (sd_next_card _ _ _ M F W C ms w j h.look hj hn)
  have K := Lib.hid (fun w' S' sd mv => h.lookT (w' := w') (S' := S') (us := []) (ks := ms.set j false) sd mv h.xin)
  unfold sdV bfP tbP ptr fnV at *
  clear h c0 c1 c2 c5 c6 cf hj hn
  go_enter Try.func13, Try.ntmps13
  go_wp2_with fail
  refine H.out.mono ?_
  rintro e w1 ⟨rfl, S', sd, mv⟩
  have R := Lib.hid (K.out _ _ sd mv)
  clear sd mv K H
  go_wp2
  (try simp only [Exit.inBlock, Exit.then])
  refine bodyPost_ret (results_tmp4 rfl _ _ _) rfl ?_
  exact ⟨rfl, R.out⟩

set_option maxHeartbeats 2000000 in
theorem set_next_none (h : IsSet w s p M F W C [] ms ys ns) (hn : ∀ i : Nat, ms[i]? ≠ some true) :
    Calls Try.prog 13 #[ptr s] w fun e w' => e = .returned (.tuple #[.int .i64 0, .int .i64 0, .bool false, .bool false]) ∧ Below w.heap.size w w' := by
  obtain ⟨c0, c1, c2, c3, c4, c5, c6, cf⟩ := h.seven
  have H := Lib.hid (sd_next_none _ _ _ M F W C ms w h.look hn)
  unfold sdV bfP tbP ptr fnV at *
  clear h c0 c1 c2 c5 c6 cf hn
  go_enter Try.func13, Try.ntmps13
  go_wp2_with fail
  refine H.out.mono ?_
  rintro e w1 ⟨rfl, b1⟩
  have B := Lib.hid b1
  clear b1 H
  go_wp2
  (try simp only [Exit.inBlock, Exit.then])
  refine bodyPost_ret (results_tmp4 rfl _ _ _) rfl ?_
  exact ⟨rfl, B.out⟩

set_option maxHeartbeats 2000000 in
theorem set_flip_no (h : IsSet w s p M F W C xs ms ys ns) (hn : 0 < xs.length + ms.count true) :
    Calls Try.prog 12 #[ptr s] w fun e w' => e = .returned (.bool false) ∧ Below w.heap.size w w' := by
  have H := Lib.hid (set_left s p M F W C xs ys ms ns w h)
  obtain ⟨n, en⟩ : ∃ n, xs.length + ms.count true = n := ⟨_, rfl⟩
  rw [en] at H hn
  have d : decide ((n : Int) > 0) = true := decide_eq_true (by omega)
  have d2 : decide (0 < (n : Int)) = true := decide_eq_true (by omega)
  clear h en
  unfold ptr at *
  go_enter Try.func12, Try.ntmps12
  go_wp2_with fail
  refine H.out.mono ?_
  rintro e w1 ⟨rfl, b1⟩
  have B := Lib.hid b1
  clear b1 H
  go_wp2
  go_ret
  exact ⟨rfl, B.out⟩

set_option maxHeartbeats 8000000 in
theorem set_flip_yes (h : IsSet w s p M F W C [] ms ys ns) (hn : ms.count true = 0) :
    Calls Try.prog 12 #[ptr s] w fun e w' => e = .returned (.bool true) ∧ ∃ p', IsSet w' s p' M F W C ys ns [] (List.replicate (nmI W C) false) ∧ Mv (p.own s) (p'.own s) w w' := by
  have H := Lib.hid (set_left s p M F W C [] ys ms ns w h)
  rw [hn] at H
  have HH := Lib.hid h
  clear h hn
  unfold ptr at *
  go_enter Try.func12, Try.ntmps12
  go_wp2_with fail
  refine H.out.mono ?_
  rintro e w1 ⟨rfl, b1⟩
  have hd := HH.out.keep (below_trans b1 (below_drew w1))
  have H1 := Lib.hid hd
  have B1 := Lib.hid (below_trans b1 (below_drew w1))
  obtain ⟨c0, c1, c2, c3, c4, c5, c6, cf⟩ := (HH.out.keep b1).seven
  have HM := Lib.hid ((sd_make _ _ _ _ _ _ _ _ _ hd.caps).mono fun e w' ⟨b, t, he, fr, b2⟩ => (show ∃ b t, e = Ending.returned (sdV b t) ∧ Hid (Fresh w1.drew w' b t p.m p.f p.n p.c ∧ Below w1.drew.heap.size w1.drew w') ∧ Blk w' s #[.int .i64 p.X, .int .i64 p.Y, fnV p.k0 p.k1 p.k2 p.k3, bfP p.b1, tbP p.t1, bfP p.b2, tbP p.t2] 54 from
    ⟨b, t, he, Lib.hid ⟨fr, b2⟩, hd.blk.keep b2⟩))
  have hne := ne_fn
  have HT := Lib.hid (fun v2 b t (fr : Fresh w1.drew v2 b t p.m p.f p.n p.c) (b2 : Below w1.drew.heap.size w1.drew v2) (k : Blk v2 s #[.int .i64 p.X, .int .i64 p.Y, fnV p.k0 p.k1 p.k2 p.k3, bfP p.b1, tbP p.t1, bfP p.b2, tbP p.t2] 54) =>
    (show ∃ p', IsSet ((((v2.setCell ⟨s, 3, none⟩ (bfP p.b2)).setCell ⟨s, 4, none⟩ (tbP p.t2)).setCell ⟨s, 5, none⟩ (bfP b)).setCell ⟨s, 6, none⟩ (tbP t)) s p' M F W C ys ns [] (List.replicate (nmI W C) false) ∧ Mv (p.own s) (p'.own s) w ((((v2.setCell ⟨s, 3, none⟩ (bfP p.b2)).setCell ⟨s, 4, none⟩ (tbP p.t2)).setCell ⟨s, 5, none⟩ (bfP b)).setCell ⟨s, 6, none⟩ (tbP t)) from by
      obtain ⟨p', hp, mv⟩ := H1.out.turn b2 fr ((((k.set_ 3 (bfP p.b2)).set_ 4 (tbP p.t2)).set_ 5 (bfP b)).set_ 6 (tbP t)) (Frm.setCell (S := (· = s)) (Frm.setCell (S := (· = s)) (Frm.setCell (S := (· = s)) (Frm.setCell (S := (· = s)) (Frm.refl _ v2) (p := ⟨s, 3, none⟩) (fun _ => rfl) _) (p := ⟨s, 4, none⟩) (fun _ => rfl) _) (p := ⟨s, 5, none⟩) (fun _ => rfl) _) (p := ⟨s, 6, none⟩) (fun _ => rfl) _)
      exact ⟨p', hp, mv.pre B1.out⟩))
  have lt0 := hd.blk.lt
  clear b1 hd H HH c0 c1 B1
  unfold fnV bfP tbP ptr sdV at *
  go_wp2_with fail
  go_region_with (go_at_call 23; refine HM.out.mono ?_; rintro e v2 ⟨b, t, rfl, FR, k⟩; have q3 := k.cell 3; have q4 := k.cell 4; have q5 := k.cell 5; have q6 := k.cell 6; have qf := k.frozen; have KK := Lib.hid k; clear k)
  all_goals
    go_wp2
    go_ret
    exact ⟨rfl, HT.out _ _ _ FR.out.1 FR.out.2 KK.out⟩
end
end Go.Proofs.Ytfjojpfknjdjiaa

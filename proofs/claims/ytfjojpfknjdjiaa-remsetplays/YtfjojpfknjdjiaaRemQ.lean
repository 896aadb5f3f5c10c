/- Two rows of numbers and two rows of flags in memory, beside a set. -/
import Derived.Test.YtfjojpfknjdjiaaRemF
namespace Go.Proofs.Ytfjojpfknjdjiaa
open Go.RowKit

/-- Flags with more behind them, all of them not set. -/
def pad (L : Nat) (ms : List Bool) : List Bool := ms ++ List.replicate (L - ms.length) false

theorem pad_length {L : Nat} {ms : List Bool} (h : ms.length ≤ L) : (pad L ms).length = L := by unfold pad; simp; omega
theorem pad_count (L : Nat) (ms : List Bool) : (pad L ms).count true = ms.count true := by unfold pad; rw [List.count_append, List.count_replicate]; simp
theorem pad_set {L j : Nat} {ms : List Bool} (h : j < ms.length) (v : Bool) : (pad L ms).set j v = pad L (ms.set j v) := by
  unfold pad; rw [List.set_append_left _ _ h, List.length_set]
theorem pad_at {L j : Nat} {ms : List Bool} {v : Bool} (h : ms[j]? = some v) : (pad L ms)[j]? = some v := by
  unfold pad; rw [List.getElem?_append_left (List.getElem?_eq_some_iff.1 h).1]; exact h
theorem pad_none (L N : Nat) (h : N ≤ L) : pad L (List.replicate N false) = List.replicate L false := by
  unfold pad; rw [List.length_replicate, List.replicate_append_replicate]; congr 1; omega

/-- How many whole parts, and one more, are enough. -/
theorem ceil_le {W C : Int} (c0 : 1 ≤ C) : (W + C - 1) / C ≤ W / C + 1 := by
  have e := Int.mul_ediv_add_emod W C
  have m1 := Int.emod_lt_of_pos W (show 0 < C by omega)
  rw [Int.mul_comm] at e
  have : (W + C - 1) / C < W / C + 2 := by
    refine Int.ediv_lt_of_lt_mul (by omega) ?_
    rw [Int.add_mul]
    omega
  omega

/-- The rows lie in block R, the flags' slices in block Q: u0 and p0 first, u1 and p1 behind. -/
structure Mh (w : World) (R Q L : Nat) (A0 : Option Addr) (n0 c0 : Nat) (u0 : List Int) (A1 : Option Addr) (n1 c1 : Nat) (u1 : List Int) (g0 : Nat) (p0 : List Bool) (g1 : Nat) (p1 : List Bool) : Prop where
  rows : Blk w R #[.slice A0 n0 c0, .slice A1 n1 c1] 27
  mks : Blk w Q #[.slice (some ⟨g0, 0, none⟩) L L, .slice (some ⟨g1, 0, none⟩) L L] 29
  q0 : Qu w A0 n0 c0 u0
  q1 : Qu w A1 n1 c1 u1
  b0 : Blk w g0 (p0.map Value.bool).toArray 4
  b1 : Blk w g1 (p1.map Value.bool).toArray 4
  l0 : p0.length = L
  l1 : p1.length = L
  ne : g0 ≠ g1
  na : ∀ k, blkOf A0 = some k → blkOf A1 ≠ some k

/-- Their blocks. -/
def foot (R Q g0 g1 : Nat) (A0 A1 : Option Addr) (k : Nat) : Prop := k = R ∨ k = Q ∨ k = g0 ∨ k = g1 ∨ blkOf A0 = some k ∨ blkOf A1 = some k

theorem Qu.ne_ {w : World} {A : Option Addr} {n c : Nat} {xs : List Int} (h : Qu w A n c xs) {g : Nat} {cs : Array Value} {t : TypeId} (hg : Blk w g cs t) (ht : t ≠ 3) : blkOf A ≠ some g := by
  intro e
  rcases h.lies with ⟨rfl, _⟩ | ⟨g', off, cs', rfl, hb, _⟩
  · cases e
  · cases e
    exact Blk.ne_ hg hb ht rfl

section
variable {w w' : World} {R Q L : Nat} {A0 A1 : Option Addr} {n0 c0 n1 c1 : Nat} {u0 u1 : List Int} {g0 g1 : Nat} {p0 p1 : List Bool}

theorem Mh.lt (h : Mh w R Q L A0 n0 c0 u0 A1 n1 c1 u1 g0 p0 g1 p1) {k : Nat} (hk : foot R Q g0 g1 A0 A1 k) : k < w.heap.size := by
  rcases hk with rfl | rfl | rfl | rfl | e | e
  · exact h.rows.lt
  · exact h.mks.lt
  · exact h.b0.lt
  · exact h.b1.lt
  · exact h.q0.lt e
  · exact h.q1.lt e

theorem Mh.frm {S : Nat → Prop} (h : Mh w R Q L A0 n0 c0 u0 A1 n1 c1 u1 g0 p0 g1 p1) (f : Frm S w w') (hs : ∀ k, foot R Q g0 g1 A0 A1 k → ¬ S k) : Mh w' R Q L A0 n0 c0 u0 A1 n1 c1 u1 g0 p0 g1 p1 :=
  { h with
    rows := h.rows.frm f (hs _ (.inl rfl))
    mks := h.mks.frm f (hs _ (.inr (.inl rfl)))
    b0 := h.b0.frm f (hs _ (.inr (.inr (.inl rfl))))
    b1 := h.b1.frm f (hs _ (.inr (.inr (.inr (.inl rfl)))))
    q0 := h.q0.frm f fun k e => hs k (.inr (.inr (.inr (.inr (.inl e)))))
    q1 := h.q1.frm f fun k e => hs k (.inr (.inr (.inr (.inr (.inr e))))) }

theorem frm_set (w : World) (b i : Nat) (v : Value) : Frm (· = b) w (w.setCell ⟨b, i, none⟩ v) := Frm.setCell (S := (· = b)) (Frm.refl _ w) (p := ⟨b, i, none⟩) (fun _ => rfl) v

/-- One more in the first row. -/
theorem Mh.app {A' : Option Addr} {c' : Nat} {x : Int} (h : Mh w R Q L A0 n0 c0 u0 A1 n1 c1 u1 g0 p0 g1 p1) (q : Qu w' A' (n0 + 1) c' (u0 ++ [x])) (g : Grw A0 A' w w') :
    Mh (w'.setCell ⟨R, 0, none⟩ (.slice A' (n0 + 1) c')) R Q L A' (n0 + 1) c' (u0 ++ [x]) A1 n1 c1 u1 g0 p0 g1 p1 ∧
    Frm (foot R Q g0 g1 A0 A1) w (w'.setCell ⟨R, 0, none⟩ (.slice A' (n0 + 1) c')) ∧ (∀ k, foot R Q g0 g1 A' A1 k → foot R Q g0 g1 A0 A1 k ∨ (w.heap.size ≤ k ∧ k < (w'.setCell ⟨R, 0, none⟩ (.slice A' (n0 + 1) c')).heap.size)) := by
  have rw' := h.rows.frm g.frm (h.q0.ne_ h.rows (by decide))
  have f2 := frm_set w' R 0 (.slice A' (n0 + 1) c')
  have e1 : blkOf A1 ≠ some R := h.q1.ne_ h.rows (by decide)
  have hm := h.mks.frm g.frm (h.q0.ne_ h.mks (by decide))
  have h0 := h.b0.frm g.frm (h.q0.ne_ h.b0 (by decide))
  have h1 := h.b1.frm g.frm (h.q0.ne_ h.b1 (by decide))
  refine ⟨⟨rw'.set_ 0 _, hm.frm f2 (Blk.ne_ h.mks h.rows (by decide)), q.frm f2 fun k e z => ?_, (h.q1.frm g.frm fun k e z => h.na k z e).frm f2 fun k e z => e1 (z ▸ e), h0.frm f2 (Blk.ne_ h.b0 h.rows (by decide)), h1.frm f2 (Blk.ne_ h.b1 h.rows (by decide)), h.l0, h.l1, h.ne, fun k e => ?_⟩, ?_, ?_⟩
  · exact q.ne_ rw' (by decide) (z ▸ e)
  · rcases g.at_ k e with e | e
    · exact h.na k e
    · exact fun z => by have := h.q1.lt z; omega
  · exact (g.frm.mono (S' := foot R Q g0 g1 A0 A1) fun i _ e => .inr (.inr (.inr (.inr (.inl e))))).trans f2 fun i _ e => .inl e
  · rintro k (e | e | e | e | e | e)
    · exact .inl (.inl e)
    · exact .inl (.inr (.inl e))
    · exact .inl (.inr (.inr (.inl e)))
    · exact .inl (.inr (.inr (.inr (.inl e))))
    · rcases g.at_ k e with z | z
      · exact .inl (.inr (.inr (.inr (.inr (.inl z)))))
      · exact .inr ⟨z, Nat.lt_of_lt_of_le (q.lt e) f2.size⟩
    · exact .inl (.inr (.inr (.inr (.inr (.inr e)))))

/-- The second row is another one of the same block. -/
theorem Mh.tl {A' : Option Addr} {n' c' : Nat} {us : List Int} (h : Mh w R Q L A0 n0 c0 u0 A1 n1 c1 u1 g0 p0 g1 p1) (q : Qu w A' n' c' us) (e : blkOf A' = blkOf A1) :
    Mh (w.setCell ⟨R, 1, none⟩ (.slice A' n' c')) R Q L A0 n0 c0 u0 A' n' c' us g0 p0 g1 p1 ∧
    Frm (foot R Q g0 g1 A0 A1) w (w.setCell ⟨R, 1, none⟩ (.slice A' n' c')) ∧ (∀ k, foot R Q g0 g1 A0 A' k → foot R Q g0 g1 A0 A1 k ∨ (w.heap.size ≤ k ∧ k < (w.setCell ⟨R, 1, none⟩ (.slice A' n' c')).heap.size)) := by
  have f2 := frm_set w R 1 (.slice A' n' c')
  refine ⟨⟨h.rows.set_ 1 _, h.mks.frm f2 (Blk.ne_ h.mks h.rows (by decide)), h.q0.frm f2 fun k z y => h.q0.ne_ h.rows (by decide) (y ▸ z), q.frm f2 fun k z y => q.ne_ h.rows (by decide) (y ▸ z), h.b0.frm f2 (Blk.ne_ h.b0 h.rows (by decide)), h.b1.frm f2 (Blk.ne_ h.b1 h.rows (by decide)), h.l0, h.l1, h.ne, fun k z => by rw [e]; exact h.na k z⟩, f2.mono fun i _ z => .inl z, fun k z => .inl ?_⟩
  unfold foot at z ⊢
  rw [e] at z
  exact z

theorem Mh.mk0 (h : Mh w R Q L A0 n0 c0 u0 A1 n1 c1 u1 g0 p0 g1 p1) (j : Nat) (v : Bool) :
    Mh (w.setCell ⟨g0, j, none⟩ (.bool v)) R Q L A0 n0 c0 u0 A1 n1 c1 u1 g0 (p0.set j v) g1 p1 ∧ Frm (foot R Q g0 g1 A0 A1) w (w.setCell ⟨g0, j, none⟩ (.bool v)) := by
  have f2 := frm_set w g0 j (.bool v)
  exact ⟨⟨h.rows.frm f2 (Blk.ne_ h.rows h.b0 (by decide)), h.mks.frm f2 (Blk.ne_ h.mks h.b0 (by decide)), h.q0.frm f2 fun k z y => h.q0.ne_ h.b0 (by decide) (y ▸ z), h.q1.frm f2 fun k z y => h.q1.ne_ h.b0 (by decide) (y ▸ z), h.b0.setBool j v, h.b1.frm f2 (Ne.symm h.ne), by rw [List.length_set]; exact h.l0, h.l1, h.ne, h.na⟩, f2.mono fun i _ z => .inr (.inr (.inl z))⟩

theorem Mh.mk1 (h : Mh w R Q L A0 n0 c0 u0 A1 n1 c1 u1 g0 p0 g1 p1) (j : Nat) (v : Bool) :
    Mh (w.setCell ⟨g1, j, none⟩ (.bool v)) R Q L A0 n0 c0 u0 A1 n1 c1 u1 g0 p0 g1 (p1.set j v) ∧ Frm (foot R Q g0 g1 A0 A1) w (w.setCell ⟨g1, j, none⟩ (.bool v)) := by
  have f2 := frm_set w g1 j (.bool v)
  exact ⟨⟨h.rows.frm f2 (Blk.ne_ h.rows h.b1 (by decide)), h.mks.frm f2 (Blk.ne_ h.mks h.b1 (by decide)), h.q0.frm f2 fun k z y => h.q0.ne_ h.b1 (by decide) (y ▸ z), h.q1.frm f2 fun k z y => h.q1.ne_ h.b1 (by decide) (y ▸ z), h.b0.frm f2 h.ne, h.b1.setBool j v, h.l0, by rw [List.length_set]; exact h.l1, h.ne, h.na⟩, f2.mono fun i _ z => .inr (.inr (.inr (.inl z)))⟩

/-- The first ones are second; new ones are first. -/
theorem Mh.turn {g : Nat} (h : Mh w R Q L A0 n0 c0 u0 A1 n1 c1 u1 g0 p0 g1 p1) (f : Frm (fun k => k = R ∨ k = Q) w w') (hg : w.heap.size ≤ g)
    (rows : Blk w' R #[.slice none 0 0, .slice A0 n0 c0] 27) (mks : Blk w' Q #[.slice (some ⟨g, 0, none⟩) L L, .slice (some ⟨g0, 0, none⟩) L L] 29) (b : Blk w' g ((List.replicate L false).map Value.bool).toArray 4) :
    Mh w' R Q L none 0 0 [] A0 n0 c0 u0 g (List.replicate L false) g0 p0 ∧ Frm (foot R Q g0 g1 A0 A1) w w' ∧ (∀ k, foot R Q g g0 none A0 k → foot R Q g0 g1 A0 A1 k ∨ (w.heap.size ≤ k ∧ k < w'.heap.size)) := by
  refine ⟨⟨rows, mks, Qu.nil _, h.q0.frm f fun k z y => ?_, b, h.b0.frm f fun y => ?_, by simp, h.l0, fun e => by have := h.b0.lt; omega, fun k e => by cases e⟩, f.mono fun i _ z => z.elim .inl fun z => .inr (.inl z), ?_⟩
  · rcases y with rfl | rfl
    · exact h.q0.ne_ h.rows (by decide) z
    · exact h.q0.ne_ h.mks (by decide) z
  · rcases y with y | y
    · exact Blk.ne_ h.b0 h.rows (by decide) y
    · exact Blk.ne_ h.b0 h.mks (by decide) y
  · rintro k (e | e | e | e | e | e)
    · exact .inl (.inl e)
    · exact .inl (.inr (.inl e))
    · exact .inr ⟨by omega, by rw [e]; exact b.lt⟩
    · exact .inl (.inr (.inr (.inl e)))
    · cases e
    · exact .inl (.inr (.inr (.inr (.inr (.inl e)))))
end

/-- At the head of a round: a set, and what it should hold, in rows and flags beside it. -/
structure Ml (w0 w : World) (s : Nat) (M F W C : Int) (R Q L : Nat) (xs : List Int) (ms : List Bool) (ys : List Int) (ns : List Bool) (A0 : Option Addr) (n0 c0 : Nat) (A1 : Option Addr) (n1 c1 : Nat) (g0 g1 : Nat) : Prop where
  rz : Rz w0 w (foot R Q g0 g1 A0 A1) s M F W C xs ms ys ns
  mh : Mh w R Q L A0 n0 c0 ys A1 n1 c1 xs g0 (pad L ns) g1 (pad L ms)

/-- In a round: an act beside them. -/
structure Md (w0 w : World) (s ab : Nat) (x0 x1 M F W C : Int) (R Q L : Nat) (xs : List Int) (ms : List Bool) (ys : List Int) (ns : List Bool) (A0 : Option Addr) (n0 c0 : Nat) (u0 : List Int) (A1 : Option Addr) (n1 c1 : Nat) (u1 : List Int) (g0 : Nat) (p0 : List Bool) (g1 : Nat) (p1 : List Bool) : Prop where
  rz : Rz w0 w (fun k => k = ab ∨ foot R Q g0 g1 A0 A1 k) s M F W C xs ms ys ns
  mh : Mh w R Q L A0 n0 c0 u0 A1 n1 c1 u1 g0 p0 g1 p1
  box : Blk w ab #[.int .i64 x0, .int .i64 x1] 31

section
variable {w0 w w' : World} {s ab R Q L : Nat} {x0 x1 M F W C : Int} {A0 A1 B0 B1 : Option Addr} {n0 c0 n1 c1 k0 e0 k1 e1 : Nat} {u0 u1 v0 v1 xs ys xs' ys' : List Int} {g0 g1 h0 h1 : Nat} {p0 p1 r0 r1 ms ns ms' ns' : List Bool}

theorem Ml.act (h : Ml w0 w s M F W C R Q L xs ms ys ns A0 n0 c0 A1 n1 c1 g0 g1) (x0 x1 : Int) :
    Md w0 (w.alloc (.cells #[.int .i64 x0, .int .i64 x1] 31)) s w.heap.size x0 x1 M F W C R Q L xs ms ys ns A0 n0 c0 ys A1 n1 c1 xs g0 (pad L ns) g1 (pad L ms) := by
  have b : Below w.heap.size w (w.alloc (.cells #[.int .i64 x0, .int .i64 x1] 31)) := (Below.refl _ _).alloc (Nat.le_refl _) _
  exact ⟨h.rz.grow b fun k hk => hk.elim (fun e => .inr (by subst e; simp)) .inl, h.mh.frm (S := fun _ => False) (Frm.of_below b) fun _ _ e => e, Blk.new _ _ _⟩

theorem Md.step (h : Md w0 w s ab x0 x1 M F W C R Q L xs ms ys ns A0 n0 c0 u0 A1 n1 c1 u1 g0 p0 g1 p1) (r : Rz w0 w' (fun k => k = ab ∨ foot R Q g0 g1 A0 A1 k) s M F W C xs' ms' ys' ns') (k : Kp (fun k => k = ab ∨ foot R Q g0 g1 A0 A1 k) w w') :
    Md w0 w' s ab x0 x1 M F W C R Q L xs' ms' ys' ns' A0 n0 c0 u0 A1 n1 c1 u1 g0 p0 g1 p1 := ⟨r, h.mh.frm k fun _ hj e => e (.inr hj), h.box.kp k (.inl rfl)⟩

theorem Md.keep (h : Md w0 w s ab x0 x1 M F W C R Q L xs ms ys ns A0 n0 c0 u0 A1 n1 c1 u1 g0 p0 g1 p1) (b : Below w.heap.size w w') :
    Md w0 w' s ab x0 x1 M F W C R Q L xs ms ys ns A0 n0 c0 u0 A1 n1 c1 u1 g0 p0 g1 p1 := h.step (h.rz.keep b) (Kp.of_below b)

theorem Md.apart (h : Md w0 w s ab x0 x1 M F W C R Q L xs ms ys ns A0 n0 c0 u0 A1 n1 c1 u1 g0 p0 g1 p1) : ¬ foot R Q g0 g1 A0 A1 ab := by
  rintro (e | e | e | e | e | e)
  · exact Blk.ne_ h.box h.mh.rows (by decide) e
  · exact Blk.ne_ h.box h.mh.mks (by decide) e
  · exact Blk.ne_ h.box h.mh.b0 (by decide) e
  · exact Blk.ne_ h.box h.mh.b1 (by decide) e
  · exact h.mh.q0.ne_ h.box (by decide) e
  · exact h.mh.q1.ne_ h.box (by decide) e

/-- What is beside the set has been written to. -/
theorem Md.write (h : Md w0 w s ab x0 x1 M F W C R Q L xs ms ys ns A0 n0 c0 u0 A1 n1 c1 u1 g0 p0 g1 p1)
    (k : Mh w' R Q L B0 k0 e0 v0 B1 k1 e1 v1 h0 r0 h1 r1 ∧ Frm (foot R Q g0 g1 A0 A1) w w' ∧ (∀ k, foot R Q h0 h1 B0 B1 k → foot R Q g0 g1 A0 A1 k ∨ (w.heap.size ≤ k ∧ k < w'.heap.size))) :
    Md w0 w' s ab x0 x1 M F W C R Q L xs ms ys ns B0 k0 e0 v0 B1 k1 e1 v1 h0 r0 h1 r1 :=
  ⟨h.rz.write k.2.1 (fun _ _ e => .inr e) (fun j hj => hj.elim (fun e => .inl (.inl e)) fun e => (k.2.2 j e).imp .inr id), k.1, h.box.frm k.2.1 h.apart⟩

theorem Md.done (h : Md w0 w s ab x0 x1 M F W C R Q L xs ms ys ns A0 n0 c0 ys A1 n1 c1 xs g0 (pad L ns) g1 (pad L ms)) : Ml w0 w s M F W C R Q L xs ms ys ns A0 n0 c0 A1 n1 c1 g0 g1 :=
  ⟨h.rz.grow (Below.refl _ _) fun _ hk => .inl (.inr hk), h.mh⟩

/-- Its cells. -/
theorem Mh.cells (h : Mh w R Q L A0 n0 c0 u0 A1 n1 c1 u1 g0 p0 g1 p1) :
    w.cell? ⟨R, 0, none⟩ = some (.slice A0 n0 c0) ∧ w.cell? ⟨R, 1, none⟩ = some (.slice A1 n1 c1) ∧ w.cell? ⟨Q, 0, none⟩ = some (.slice (some ⟨g0, 0, none⟩) L L) ∧ w.cell? ⟨Q, 1, none⟩ = some (.slice (some ⟨g1, 0, none⟩) L L) ∧
    (∀ i, w.frozen? ⟨R, i, none⟩ = false) ∧ (∀ i, w.frozen? ⟨Q, i, none⟩ = false) := ⟨h.rows.cell 0, h.rows.cell 1, h.mks.cell 0, h.mks.cell 1, h.rows.frozen, h.mks.frozen⟩
theorem Md.two (h : Md w0 w s ab x0 x1 M F W C R Q L xs ms ys ns A0 n0 c0 u0 A1 n1 c1 u1 g0 p0 g1 p1) : w.cell? ⟨ab, 0, none⟩ = some (.int .i64 x0) ∧ w.cell? ⟨ab, 1, none⟩ = some (.int .i64 x1) := ⟨h.box.cell 0, h.box.cell 1⟩
end

/-- At the head of a round, whatever the set holds. -/
def Lh (w0 w : World) (s : Nat) (M F W C : Int) (R Q L : Nat) : Prop :=
  ∃ xs ms ys ns A0 n0 c0 A1 n1 c1 g0 g1, Ml w0 w s M F W C R Q L xs ms ys ns A0 n0 c0 A1 n1 c1 g0 g1

theorem ml_start {w0 w1 : World} {s N L : Nat} {M F W C : Int} (r : Rz w0 w1 noZ s M F W C [] (List.replicate N false) [] (List.replicate N false)) (nl : N ≤ L) (ga gb : Nat) (hg : (ga = w1.heap.size + 2 ∧ gb = w1.heap.size + 3) ∨ (ga = w1.heap.size + 3 ∧ gb = w1.heap.size + 2)) :
    Ml w0 ((((w1.alloc (.cells #[.slice none 0 0, .slice none 0 0] 27)).alloc (.cells #[.slice (some ⟨ga, 0, none⟩) L L, .slice (some ⟨gb, 0, none⟩) L L] 29)).alloc (.cells (Array.replicate L (Value.bool false)) 4)).alloc (.cells (Array.replicate L (Value.bool false)) 4)).drew
      s M F W C w1.heap.size (w1.heap.size + 1) L [] (List.replicate N false) [] (List.replicate N false) none 0 0 none 0 0 ga gb := by
  have e1 : ((List.replicate L false).map Value.bool).toArray = Array.replicate L (Value.bool false) := by simp
  have k0 := (((Blk.new w1 #[.slice none 0 0, .slice none 0 0] 27).alloc (.cells #[.slice (some ⟨ga, 0, none⟩) L L, .slice (some ⟨gb, 0, none⟩) L L] 29)).alloc (.cells (Array.replicate L (Value.bool false)) 4)).alloc (.cells (Array.replicate L (Value.bool false)) 4)
  have k1 := ((Blk.new (w1.alloc (.cells #[.slice none 0 0, .slice none 0 0] 27)) #[.slice (some ⟨ga, 0, none⟩) L L, .slice (some ⟨gb, 0, none⟩) L L] 29).alloc (.cells (Array.replicate L (Value.bool false)) 4)).alloc (.cells (Array.replicate L (Value.bool false)) 4)
  have k2 := (Blk.new ((w1.alloc (.cells #[.slice none 0 0, .slice none 0 0] 27)).alloc (.cells #[.slice (some ⟨ga, 0, none⟩) L L, .slice (some ⟨gb, 0, none⟩) L L] 29)) (Array.replicate L (Value.bool false)) 4).alloc (.cells (Array.replicate L (Value.bool false)) 4)
  have k3 := Blk.new (((w1.alloc (.cells #[.slice none 0 0, .slice none 0 0] 27)).alloc (.cells #[.slice (some ⟨ga, 0, none⟩) L L, .slice (some ⟨gb, 0, none⟩) L L] 29)).alloc (.cells (Array.replicate L (Value.bool false)) 4)) (Array.replicate L (Value.bool false)) 4
  have b : Below w1.heap.size w1 ((((w1.alloc (.cells #[.slice none 0 0, .slice none 0 0] 27)).alloc (.cells #[.slice (some ⟨ga, 0, none⟩) L L, .slice (some ⟨gb, 0, none⟩) L L] 29)).alloc (.cells (Array.replicate L (Value.bool false)) 4)).alloc (.cells (Array.replicate L (Value.bool false)) 4)).drew :=
    (((((Below.refl _ _).alloc (Nat.le_refl _) _).alloc (by simp) _).alloc (by simp; omega) _).alloc (by simp; omega) _).drew
  simp only [World.size_alloc] at k1 k2 k3
  refine ⟨r.grow b ?_, ⟨k0, k1, Qu.nil _, Qu.nil _, ?_, ?_, by rw [pad_none _ _ nl]; simp, by rw [pad_none _ _ nl]; simp, by omega, fun k e => by cases e⟩⟩
  · rintro k (e | e | e | e | e | e)
    · exact .inr (by subst e; simp; omega)
    · exact .inr (by subst e; simp)
    · exact .inr (by simp; omega)
    · exact .inr (by simp; omega)
    · cases e
    · cases e
  · rw [pad_none _ _ nl, e1]
    rcases hg with ⟨rfl, rfl⟩ | ⟨rfl, rfl⟩
    · exact k2
    · exact k3
  · rw [pad_none _ _ nl, e1]
    rcases hg with ⟨rfl, rfl⟩ | ⟨rfl, rfl⟩
    · exact k3
    · exact k2
end Go.Proofs.Ytfjojpfknjdjiaa

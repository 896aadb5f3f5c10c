/- awake of stage 18's statements, and GraphNone. -/
import Derived.Test.YtjjjeeffllelaaaGgN
namespace Go.Proofs.Ytjjjeeffllelaaa
open Go.RowKit Go.Maps

def aw0 : Gr := Gr.new 3 5
def aw1 : Gr := aw0.nxt 1 1 2 1 0
def aw2 : Gr := aw1.nxt 3 1 1 1 0
theorem aw_1 : aw0.ans 1 1 2 1 0 = (0, false, 0, 0) := by decide
theorem aw_2 : aw1.ans 3 1 1 1 0 = (0, false, 0, 0) := by decide
theorem aw_3 : aw2.live.length = 1 := by decide
theorem aw_4 : aw2.hs.length = 3 := by decide
theorem aw_5 : aw2.shown = [([0, 1], [0])] := by decide
theorem aw_6 : aw2.heldAt = [0, 1, 0] := by decide
theorem aw_7 : aw2.words = 5 := by decide
theorem aw_8 : aw2.ns.length = 1 := by decide
abbrev an0 : Obj := .cells #[.int .i64 0, .bool false, .int .i64 0, .int .u64 0] 30

set_option maxHeartbeats 8000000 in
set_option maxRecDepth 100000 in
theorem awake18_walk (w : World) : Calls Try.prog 17 #[] w fun e w' => e = .returned (.bool true) ∧ Below w.heap.size w w' := by
  have HN := Lib.hid (gw_new (Z := noZ) (Below.refl w.heap.size w) (fun _ e => e.elim) 3 5)
  unfold gP at *
  go_enter Try.func17, Try.ntmps17
  go_wp2_with fail
  refine HN.out.mono ?_
  rintro e w1 ⟨g, rfl, k1, _⟩
  have K1 := Lib.hid (show Gw w w1 noZ g aw0 from k1)
  clear k1 HN
  go_wp2_with fail
  have h := K1.out.doG 1 1 2 1 0 (by decide) (by decide)
  rw [aw_1] at h
  refine h.mono ?_
  rintro e w2 ⟨rfl, k2, _⟩
  have al : Below w2.heap.size w2 (w2.alloc an0) := (Below.refl _ _).alloc (Nat.le_refl _) _
  have K2 := Lib.hid (show Gw w (w2.alloc an0) (fun k => k = w2.heap.size) g aw1 from k2.grow al fun k hk => .inr ⟨by omega, by subst hk; simp⟩)
  have X2 := Lib.hid (show Blk (w2.alloc an0) w2.heap.size #[.int .i64 0, .bool false, .int .i64 0, .int .u64 0] 30 from Blk.new w2 _ _)
  clear k2 h K1 al
  go_wp2_with fail
  generalize w2.alloc (.cells #[.int .i64 0, .bool false, .int .i64 0, .int .u64 0] 30) = v2 at *
  generalize w2.heap.size = x2 at *
  have h := K2.out.doG 3 1 1 1 0 (by decide) (by decide)
  rw [aw_2] at h
  refine h.mono ?_
  rintro e w3 ⟨rfl, k3, p3⟩
  have al : Below w3.heap.size w3 (w3.alloc an0) := (Below.refl _ _).alloc (Nat.le_refl _) _
  have K3 := Lib.hid (show Gw w (w3.alloc an0) noZ g aw2 from k3.grow al fun k hk => hk.elim)
  have X3 := Lib.hid (And.intro ((X2.out.kp p3 rfl).keep al) (show Blk (w3.alloc an0) w3.heap.size #[.int .i64 0, .bool false, .int .i64 0, .int .u64 0] 30 from Blk.new w3 _ _))
  clear k3 p3 h K2 X2 al
  go_wp2_with fail
  generalize w3.alloc (.cells #[.int .i64 0, .bool false, .int .i64 0, .int .u64 0] 30) = v3 at *
  generalize w3.heap.size = x3 at *
  refine (K3.out.tell (by rw [aw_8]; decide)).mono ?_
  rintro e w4 ⟨⟨Aa, ca, Ax, cx, rfl, b4, T4⟩, k4⟩
  rw [aw_3, aw_4]
  have q0 := (X3.out.1.keep b4).cell 0
  have q1 := (X3.out.2.keep b4).cell 0
  have K4 := Lib.hid (And.intro k4 T4)
  obtain ⟨gq, off, A1, c1, A2, c2, e1, _, l1, d1, _, r1, _⟩ := T4.nd 0 ([0, 1], [0]) (by rw [aw_5]; rfl)
  obtain ⟨g1, o1, e3, _, l3, d3⟩ := r1 1 1 rfl
  obtain ⟨g2, o2, e4, _, l4, d4⟩ := T4.rd 1 1 (by rw [aw_6]; rfl)
  have SM := Lib.hid (fun w5 (f : Below w4.heap.size w4 w5) => same_tell (ca := ca) (cx := cx) (cb := ca) (cy := cx) (T4.keep f) (T4.keep f) (by rw [aw_3]; decide) (by rw [aw_4]; decide))
  rw [aw_3, aw_4] at SM
  subst e1 e3 e4
  have WD := Lib.hid (k4.words (by rw [aw_8]; decide))
  rw [aw_7] at WD
  clear k4 T4 X3 K3 r1 b4
  dsimp only [List.length_cons, List.length_nil] at d1
  simp only [Nat.zero_mul, Nat.add_zero] at d1
  go_wp2_with fail
  refine WD.out.mono ?_
  rintro e w5 ⟨rfl, b5⟩
  have B5 := Lib.hid (below_trans K4.out.1.bel b5)
  have S5 := Lib.hid (SM.out w5 b5)
  clear b5 SM WD q0 q1 d1 d3 d4
  go_wp2_with fail
  refine S5.out.mono ?_
  rintro e w6 ⟨rfl, b6⟩
  have B6 := Lib.hid (below_trans B5.out b6)
  clear b6
  go_wp2
  go_ret
  exact ⟨rfl, B6.out⟩

set_option maxHeartbeats 8000000 in
set_option maxRecDepth 100000 in
theorem graphNone_walk (k a b c v : Int) (w : World) : Calls Try.prog 6 #[sgV k a b c v] w fun e w' => e = .returned (.bool true) ∧ Below w.heap.size w w' := by
  have B1 := Lib.hid (show Below w.heap.size w (w.alloc (stB k a b c v)) from (Below.refl _ _).alloc (Nat.le_refl _) _)
  have X1 := Lib.hid (Blk.new w #[.int .i64 k, .int .i64 a, .int .i64 b, .int .i64 c, .int .u64 v] 33)
  go_enter Try.func6, Try.ntmps6
  go_wp2_with fail
  refine (nodes_none _).mono ?_
  rintro e w1 ⟨rfl, rfl⟩
  go_wp2_with fail
  refine (awake18_walk _).mono ?_
  rintro e w2 ⟨rfl, b2⟩
  have X2 := X1.out.keep b2
  have c0 := X2.cell 0
  have c1 := X2.cell 1
  have c2 := X2.cell 2
  have c3 := X2.cell 3
  have c4 := X2.cell 4
  have B2 := Lib.hid (below_trans B1.out b2)
  clear b2 X1 X2 B1
  go_wp2_with fail
  refine (pgDo_none _ k a b c v).mono ?_
  rintro e w3 ⟨rfl, b3⟩
  have B3 := Lib.hid (below_trans B2.out b3)
  clear b3 B2 c0 c1 c2 c3 c4
  go_wp2_with fail
  refine (words_none _).mono ?_
  rintro e w4 ⟨rfl, rfl⟩
  go_wp2
  go_ret
  exact ⟨rfl, B3.out⟩
end Go.Proofs.Ytjjjeeffllelaaa

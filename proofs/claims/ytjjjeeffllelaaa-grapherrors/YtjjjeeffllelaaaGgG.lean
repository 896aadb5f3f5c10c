/- Contracts of the program's graph: Do, an entry of a script. -/
import Derived.Test.YtjjjeeffllelaaaGgF
namespace Go.Proofs.Ytjjjeeffllelaaa
open Go.RowKit

/-- What an entry comes to. -/
def DoP (w : World) (g : Nat) (S : Nat → Prop) (G' : Gr) (e : Int) (y : Bool) (n v : Int) (en : Ending) (w' : World) : Prop :=
  en = .returned (anV e y n v) ∧ ∃ S', Pg w' g S' G' ∧ Mv S S' w w'

theorem doP_end {w w2 w1 : World} {g : Nat} {S S' : Nat → Prop} {G G' : Gr} {k : Nat} (r : Pg w g S G) (f : Below w.heap.size w w2) (mv : Mv S S' w2 w1) (r1 : Pg w1 g S' G') (k0 : w.heap.size ≤ k) (k1 : k < w2.heap.size) (e : Int) (y : Bool) (n v : Int) :
    DoP w g S G' e y n v (.returned (anV e y n v)) (anW w1 k e y n v) := by
  have nk : ¬ S' k := fun h => by
    rcases mv.at_ k h with h | h
    · have := r.lt h; omega
    · omega
  have fr := anW_frm w1 k e y n v
  refine ⟨rfl, S', r1.frm fr (fun j hj e => nk (e ▸ hj)), ?_, fun j hj => ?_⟩
  · refine ⟨fr.os.trans (mv.frm.os.trans f.os), fr.tape.trans (mv.frm.tape.trans f.tape), fr.output.trans (mv.frm.output.trans f.output), Nat.le_trans f.size (Nat.le_trans mv.frm.size fr.size), fun j hj hn => ?_⟩
    rw [fr.block j (Nat.lt_of_lt_of_le hj (Nat.le_trans f.size mv.frm.size)) (by omega), mv.frm.block j (Nat.lt_of_lt_of_le hj f.size) hn, f.block j hj]
  · exact (mv.at_ j hj).imp id fun h => Nat.le_trans f.size h

section
variable (w : World) (g : Nat) (S : Nat → Prop) (G : Gr) (k a b c v : Int)

/-- What a call within Do comes to, and what Do is to show. -/
def Ins (G' : Gr) (w1 : World) (g : Nat) (S : Nat → Prop) (E : Int) (e : Ending) (w' : World) : Prop := e = .returned (.int .i64 E) ∧ ∃ S', Pg w' g S' G' ∧ Mv S S' w1 w'

set_option maxRecDepth 100000 in
set_option maxHeartbeats 8000000 in
theorem pgDo_change (hk : turnsK k) (r : Pg w g S G) (hc0 : -9223372036854775808 ≤ c) (hc1 : c ≤ 9223372036854775807) :
    Calls Try.prog 11 #[gP g, sgV k a b c v] w fun e w' => DoP w g S (G.change k a b c v).2 (G.change k a b c v).1 false 0 0 e w' := by
  have al : Below w.heap.size w ((w.alloc (stB k a b c v)).alloc anB) := ((Below.refl _ _).alloc (Nat.le_refl _) _).alloc (by simp) _
  have sz : ((w.alloc (stB k a b c v)).alloc anB).heap.size = w.heap.size + 2 := by simp
  have bx := Blk.new (w.alloc (stB k a b c v)) #[.int .i64 0, .bool false, .int .i64 0, .int .u64 0] 30
  rw [show (w.alloc (stB k a b c v)).heap.size = w.heap.size + 1 by simp] at bx
  have rw1 := r.keep al
  have HR := Lib.hid (And.intro r (And.intro al (And.intro bx sz)))
  unfold gP at *
  rcases hk with rfl | rfl | rfl | rfl | rfl | rfl
  · have hc : Calls Try.prog 19 #[gP g, .int .i64 a, .int .i64 b, .int .i64 c] _ fun e w' => ChP _ g S G 1 a b c v e w' := (by
      cases hh : G.has a
      · exact pgMake_no _ g S G a b c v rw1 hc0 hc1 (.inl hh)
      · by_cases bad : b < 0 ∨ c < 0 ∨ G.lg < b ∨ G.lg - b < c
        · exact pgMake_no _ g S G a b c v rw1 hc0 hc1 (.inr bad)
        · exact pgMake_yes _ g S G a b c v rw1 hh (by omega) (by omega) (by omega) (by omega))
    have HC := Lib.hid hc
    unfold ChP at HC
    unfold gP at HC
    generalize G.change 1 a b c v = X at HC ⊢
    obtain ⟨E, G2⟩ := X
    dsimp only at HC ⊢
    clear hc r al bx sz rw1
    go_enter Try.func11, Try.ntmps11
    go_wp2_with fail
    refine HC.out.mono ?_
    rintro e w1 ⟨rfl, S', r1, mv⟩
    have bx := HR.out.2.2.1.frm mv.frm (fun e => by have := HR.out.1.lt e; omega)
    have HE := Lib.hid (doP_end HR.out.1 HR.out.2.1 mv r1 (k := w.heap.size + 1) (by omega) (by have := HR.out.2.2.2; omega) E false 0 0)
    have HZ := Lib.hid (anW_blk bx E false 0 0)
    have z0 := bx.cell 0
    have z1 := bx.cell 1
    have z2 := bx.cell 2
    have z3 := bx.cell 3
    have zf := bx.frozen
    have zl := bx.lt
    clear bx r1 mv HC HR
    go_wp2
    unfold anW at HE HZ
    generalize (((w1.setCell ⟨w.heap.size + 1, 0, none⟩ (.int .i64 E)).setCell ⟨w.heap.size + 1, 1, none⟩ (.bool false)).setCell ⟨w.heap.size + 1, 2, none⟩ (.int .i64 0)).setCell ⟨w.heap.size + 1, 3, none⟩ (.int .u64 0) = V at HE HZ ⊢
    have y0 := HZ.out.cell 0
    have y1 := HZ.out.cell 1
    have y2 := HZ.out.cell 2
    have y3 := HZ.out.cell 3
    refine bodyPost_ret (v := anV E false 0 0) (by simp [results, Try.results11, go_sem, y0, y1, y2, y3]) rfl ?_
    exact HE.out
  · have hc := pgGet _ g S G a b c v rw1
    have HC := Lib.hid hc
    unfold ChP at HC
    unfold gP at HC
    generalize G.change 2 a b c v = X at HC ⊢
    obtain ⟨E, G2⟩ := X
    dsimp only at HC ⊢
    clear hc r al bx sz rw1
    go_enter Try.func11, Try.ntmps11
    go_wp2_with fail
    refine HC.out.mono ?_
    rintro e w1 ⟨rfl, S', r1, mv⟩
    have bx := HR.out.2.2.1.frm mv.frm (fun e => by have := HR.out.1.lt e; omega)
    have HE := Lib.hid (doP_end HR.out.1 HR.out.2.1 mv r1 (k := w.heap.size + 1) (by omega) (by have := HR.out.2.2.2; omega) E false 0 0)
    have HZ := Lib.hid (anW_blk bx E false 0 0)
    have z0 := bx.cell 0
    have z1 := bx.cell 1
    have z2 := bx.cell 2
    have z3 := bx.cell 3
    have zf := bx.frozen
    have zl := bx.lt
    clear bx r1 mv HC HR
    go_wp2
    unfold anW at HE HZ
    generalize (((w1.setCell ⟨w.heap.size + 1, 0, none⟩ (.int .i64 E)).setCell ⟨w.heap.size + 1, 1, none⟩ (.bool false)).setCell ⟨w.heap.size + 1, 2, none⟩ (.int .i64 0)).setCell ⟨w.heap.size + 1, 3, none⟩ (.int .u64 0) = V at HE HZ ⊢
    have y0 := HZ.out.cell 0
    have y1 := HZ.out.cell 1
    have y2 := HZ.out.cell 2
    have y3 := HZ.out.cell 3
    refine bodyPost_ret (v := anV E false 0 0) (by simp [results, Try.results11, go_sem, y0, y1, y2, y3]) rfl ?_
    exact HE.out
  · have hc := pgSet _ g S G a b c v rw1
    have HC := Lib.hid hc
    unfold ChP at HC
    unfold gP at HC
    generalize G.change 3 a b c v = X at HC ⊢
    obtain ⟨E, G2⟩ := X
    dsimp only at HC ⊢
    clear hc r al bx sz rw1
    go_enter Try.func11, Try.ntmps11
    go_wp2_with fail
    refine HC.out.mono ?_
    rintro e w1 ⟨rfl, S', r1, mv⟩
    have bx := HR.out.2.2.1.frm mv.frm (fun e => by have := HR.out.1.lt e; omega)
    have HE := Lib.hid (doP_end HR.out.1 HR.out.2.1 mv r1 (k := w.heap.size + 1) (by omega) (by have := HR.out.2.2.2; omega) E false 0 0)
    have HZ := Lib.hid (anW_blk bx E false 0 0)
    have z0 := bx.cell 0
    have z1 := bx.cell 1
    have z2 := bx.cell 2
    have z3 := bx.cell 3
    have zf := bx.frozen
    have zl := bx.lt
    clear bx r1 mv HC HR
    go_wp2
    unfold anW at HE HZ
    generalize (((w1.setCell ⟨w.heap.size + 1, 0, none⟩ (.int .i64 E)).setCell ⟨w.heap.size + 1, 1, none⟩ (.bool false)).setCell ⟨w.heap.size + 1, 2, none⟩ (.int .i64 0)).setCell ⟨w.heap.size + 1, 3, none⟩ (.int .u64 0) = V at HE HZ ⊢
    have y0 := HZ.out.cell 0
    have y1 := HZ.out.cell 1
    have y2 := HZ.out.cell 2
    have y3 := HZ.out.cell 3
    refine bodyPost_ret (v := anV E false 0 0) (by simp [results, Try.results11, go_sem, y0, y1, y2, y3]) rfl ?_
    exact HE.out
  · have hc := pgWrite _ g S G a b c v rw1
    have HC := Lib.hid hc
    unfold ChP at HC
    unfold gP at HC
    generalize G.change 5 a b c v = X at HC ⊢
    obtain ⟨E, G2⟩ := X
    dsimp only at HC ⊢
    clear hc r al bx sz rw1
    go_enter Try.func11, Try.ntmps11
    go_wp2_with fail
    refine HC.out.mono ?_
    rintro e w1 ⟨rfl, S', r1, mv⟩
    have bx := HR.out.2.2.1.frm mv.frm (fun e => by have := HR.out.1.lt e; omega)
    have HE := Lib.hid (doP_end HR.out.1 HR.out.2.1 mv r1 (k := w.heap.size + 1) (by omega) (by have := HR.out.2.2.2; omega) E false 0 0)
    have HZ := Lib.hid (anW_blk bx E false 0 0)
    have z0 := bx.cell 0
    have z1 := bx.cell 1
    have z2 := bx.cell 2
    have z3 := bx.cell 3
    have zf := bx.frozen
    have zl := bx.lt
    clear bx r1 mv HC HR
    go_wp2
    unfold anW at HE HZ
    generalize (((w1.setCell ⟨w.heap.size + 1, 0, none⟩ (.int .i64 E)).setCell ⟨w.heap.size + 1, 1, none⟩ (.bool false)).setCell ⟨w.heap.size + 1, 2, none⟩ (.int .i64 0)).setCell ⟨w.heap.size + 1, 3, none⟩ (.int .u64 0) = V at HE HZ ⊢
    have y0 := HZ.out.cell 0
    have y1 := HZ.out.cell 1
    have y2 := HZ.out.cell 2
    have y3 := HZ.out.cell 3
    refine bodyPost_ret (v := anV E false 0 0) (by simp [results, Try.results11, go_sem, y0, y1, y2, y3]) rfl ?_
    exact HE.out
  · have hc := pgClear _ g S G a b c v rw1
    have HC := Lib.hid hc
    unfold ChP at HC
    unfold gP at HC
    generalize G.change 6 a b c v = X at HC ⊢
    obtain ⟨E, G2⟩ := X
    dsimp only at HC ⊢
    clear hc r al bx sz rw1
    go_enter Try.func11, Try.ntmps11
    go_wp2_with fail
    refine HC.out.mono ?_
    rintro e w1 ⟨rfl, S', r1, mv⟩
    have bx := HR.out.2.2.1.frm mv.frm (fun e => by have := HR.out.1.lt e; omega)
    have HE := Lib.hid (doP_end HR.out.1 HR.out.2.1 mv r1 (k := w.heap.size + 1) (by omega) (by have := HR.out.2.2.2; omega) E false 0 0)
    have HZ := Lib.hid (anW_blk bx E false 0 0)
    have z0 := bx.cell 0
    have z1 := bx.cell 1
    have z2 := bx.cell 2
    have z3 := bx.cell 3
    have zf := bx.frozen
    have zl := bx.lt
    clear bx r1 mv HC HR
    go_wp2
    unfold anW at HE HZ
    generalize (((w1.setCell ⟨w.heap.size + 1, 0, none⟩ (.int .i64 E)).setCell ⟨w.heap.size + 1, 1, none⟩ (.bool false)).setCell ⟨w.heap.size + 1, 2, none⟩ (.int .i64 0)).setCell ⟨w.heap.size + 1, 3, none⟩ (.int .u64 0) = V at HE HZ ⊢
    have y0 := HZ.out.cell 0
    have y1 := HZ.out.cell 1
    have y2 := HZ.out.cell 2
    have y3 := HZ.out.cell 3
    refine bodyPost_ret (v := anV E false 0 0) (by simp [results, Try.results11, go_sem, y0, y1, y2, y3]) rfl ?_
    exact HE.out
  · have hc := pgCopy _ g S G a b c v rw1
    have HC := Lib.hid hc
    unfold ChP at HC
    unfold gP at HC
    generalize G.change 7 a b c v = X at HC ⊢
    obtain ⟨E, G2⟩ := X
    dsimp only at HC ⊢
    clear hc r al bx sz rw1
    go_enter Try.func11, Try.ntmps11
    go_wp2_with fail
    refine HC.out.mono ?_
    rintro e w1 ⟨rfl, S', r1, mv⟩
    have bx := HR.out.2.2.1.frm mv.frm (fun e => by have := HR.out.1.lt e; omega)
    have HE := Lib.hid (doP_end HR.out.1 HR.out.2.1 mv r1 (k := w.heap.size + 1) (by omega) (by have := HR.out.2.2.2; omega) E false 0 0)
    have HZ := Lib.hid (anW_blk bx E false 0 0)
    have z0 := bx.cell 0
    have z1 := bx.cell 1
    have z2 := bx.cell 2
    have z3 := bx.cell 3
    have zf := bx.frozen
    have zl := bx.lt
    clear bx r1 mv HC HR
    go_wp2
    unfold anW at HE HZ
    generalize (((w1.setCell ⟨w.heap.size + 1, 0, none⟩ (.int .i64 E)).setCell ⟨w.heap.size + 1, 1, none⟩ (.bool false)).setCell ⟨w.heap.size + 1, 2, none⟩ (.int .i64 0)).setCell ⟨w.heap.size + 1, 3, none⟩ (.int .u64 0) = V at HE HZ ⊢
    have y0 := HZ.out.cell 0
    have y1 := HZ.out.cell 1
    have y2 := HZ.out.cell 2
    have y3 := HZ.out.cell 3
    refine bodyPost_ret (v := anV E false 0 0) (by simp [results, Try.results11, go_sem, y0, y1, y2, y3]) rfl ?_
    exact HE.out

set_option maxRecDepth 100000 in
set_option maxHeartbeats 8000000 in
theorem pgDo_ask (hk : k = 4 ∨ k = 8 ∨ k = 9 ∨ k = 10) (r : Pg w g S G) :
    Calls Try.prog 11 #[gP g, sgV k a b c v] w fun e w' => DoP w g S G (G.ask k a b).1 (G.ask k a b).2.1 (G.ask k a b).2.2.1 (G.ask k a b).2.2.2 e w' := by
  have al : Below w.heap.size w ((w.alloc (stB k a b c v)).alloc anB) := ((Below.refl _ _).alloc (Nat.le_refl _) _).alloc (by simp) _
  have sz : ((w.alloc (stB k a b c v)).alloc anB).heap.size = w.heap.size + 2 := by simp
  have bx := Blk.new (w.alloc (stB k a b c v)) #[.int .i64 0, .bool false, .int .i64 0, .int .u64 0] 30
  rw [show (w.alloc (stB k a b c v)).heap.size = w.heap.size + 1 by simp] at bx
  have rw1 := r.keep al
  have HR := Lib.hid (And.intro r (And.intro al (And.intro bx sz)))
  unfold gP at *
  rcases hk with rfl | rfl | rfl | rfl
  · have HC := Lib.hid (pgRead _ g S G a b rw1)
    unfold AskP at HC
    unfold gP at HC
    generalize G.ask 4 a b = X at HC ⊢
    obtain ⟨E, Y, N, U⟩ := X
    dsimp only at HC ⊢
    clear r al bx sz rw1
    go_enter Try.func11, Try.ntmps11
    go_wp2_with fail
    refine HC.out.mono ?_
    rintro e w1 ⟨rfl, bel⟩
    have bx := HR.out.2.2.1.keep bel
    have HE := Lib.hid (doP_end HR.out.1 (below_trans HR.out.2.1 bel) (Mv.of_below (Below.refl _ _)) (HR.out.1.keep (below_trans HR.out.2.1 bel)) (k := w.heap.size + 1) (by omega) (by have := HR.out.2.2.2; have := bel.size; omega) E Y N U)
    have HZ := Lib.hid (anW_blk bx E Y N U)
    clear HC bel
    have z0 := bx.cell 0
    have z1 := bx.cell 1
    have z2 := bx.cell 2
    have z3 := bx.cell 3
    have zf := bx.frozen
    have zl := bx.lt
    clear bx HR
    go_wp2
    unfold anW at HE HZ
    generalize (((w1.setCell ⟨w.heap.size + 1, 0, none⟩ (.int .i64 E)).setCell ⟨w.heap.size + 1, 1, none⟩ (.bool Y)).setCell ⟨w.heap.size + 1, 2, none⟩ (.int .i64 N)).setCell ⟨w.heap.size + 1, 3, none⟩ (.int .u64 U) = V at HE HZ ⊢
    have y0 := HZ.out.cell 0
    have y1 := HZ.out.cell 1
    have y2 := HZ.out.cell 2
    have y3 := HZ.out.cell 3
    refine bodyPost_ret (v := anV E Y N U) (by simp [results, Try.results11, go_sem, y0, y1, y2, y3]) rfl ?_
    exact HE.out
  · have HC := Lib.hid (pgSame _ g S G a b rw1)
    unfold AskP at HC
    unfold gP at HC
    generalize G.ask 8 a b = X at HC ⊢
    obtain ⟨E, Y, N, U⟩ := X
    dsimp only at HC ⊢
    clear r al bx sz rw1
    go_enter Try.func11, Try.ntmps11
    go_wp2_with fail
    refine HC.out.mono ?_
    rintro e w1 ⟨rfl, bel⟩
    have bx := HR.out.2.2.1.keep bel
    have HE := Lib.hid (doP_end HR.out.1 (below_trans HR.out.2.1 bel) (Mv.of_below (Below.refl _ _)) (HR.out.1.keep (below_trans HR.out.2.1 bel)) (k := w.heap.size + 1) (by omega) (by have := HR.out.2.2.2; have := bel.size; omega) E Y N U)
    have HZ := Lib.hid (anW_blk bx E Y N U)
    clear HC bel
    have z0 := bx.cell 0
    have z1 := bx.cell 1
    have z2 := bx.cell 2
    have z3 := bx.cell 3
    have zf := bx.frozen
    have zl := bx.lt
    clear bx HR
    go_wp2
    unfold anW at HE HZ
    generalize (((w1.setCell ⟨w.heap.size + 1, 0, none⟩ (.int .i64 E)).setCell ⟨w.heap.size + 1, 1, none⟩ (.bool Y)).setCell ⟨w.heap.size + 1, 2, none⟩ (.int .i64 N)).setCell ⟨w.heap.size + 1, 3, none⟩ (.int .u64 U) = V at HE HZ ⊢
    have y0 := HZ.out.cell 0
    have y1 := HZ.out.cell 1
    have y2 := HZ.out.cell 2
    have y3 := HZ.out.cell 3
    refine bodyPost_ret (v := anV E Y N U) (by simp [results, Try.results11, go_sem, y0, y1, y2, y3]) rfl ?_
    exact HE.out
  · have HC := Lib.hid (pgNil _ g S G a b rw1)
    unfold AskP at HC
    unfold gP at HC
    generalize G.ask 9 a b = X at HC ⊢
    obtain ⟨E, Y, N, U⟩ := X
    dsimp only at HC ⊢
    clear r al bx sz rw1
    go_enter Try.func11, Try.ntmps11
    go_wp2_with fail
    refine HC.out.mono ?_
    rintro e w1 ⟨rfl, bel⟩
    have bx := HR.out.2.2.1.keep bel
    have HE := Lib.hid (doP_end HR.out.1 (below_trans HR.out.2.1 bel) (Mv.of_below (Below.refl _ _)) (HR.out.1.keep (below_trans HR.out.2.1 bel)) (k := w.heap.size + 1) (by omega) (by have := HR.out.2.2.2; have := bel.size; omega) E Y N U)
    have HZ := Lib.hid (anW_blk bx E Y N U)
    clear HC bel
    have z0 := bx.cell 0
    have z1 := bx.cell 1
    have z2 := bx.cell 2
    have z3 := bx.cell 3
    have zf := bx.frozen
    have zl := bx.lt
    clear bx HR
    go_wp2
    unfold anW at HE HZ
    generalize (((w1.setCell ⟨w.heap.size + 1, 0, none⟩ (.int .i64 E)).setCell ⟨w.heap.size + 1, 1, none⟩ (.bool Y)).setCell ⟨w.heap.size + 1, 2, none⟩ (.int .i64 N)).setCell ⟨w.heap.size + 1, 3, none⟩ (.int .u64 U) = V at HE HZ ⊢
    have y0 := HZ.out.cell 0
    have y1 := HZ.out.cell 1
    have y2 := HZ.out.cell 2
    have y3 := HZ.out.cell 3
    refine bodyPost_ret (v := anV E Y N U) (by simp [results, Try.results11, go_sem, y0, y1, y2, y3]) rfl ?_
    exact HE.out
  · have HC := Lib.hid (pgShape _ g S G a b rw1)
    unfold AskP at HC
    unfold gP at HC
    generalize G.ask 10 a b = X at HC ⊢
    obtain ⟨E, Y, N, U⟩ := X
    dsimp only at HC ⊢
    clear r al bx sz rw1
    go_enter Try.func11, Try.ntmps11
    go_wp2_with fail
    refine HC.out.mono ?_
    rintro e w1 ⟨rfl, bel⟩
    have bx := HR.out.2.2.1.keep bel
    have HE := Lib.hid (doP_end HR.out.1 (below_trans HR.out.2.1 bel) (Mv.of_below (Below.refl _ _)) (HR.out.1.keep (below_trans HR.out.2.1 bel)) (k := w.heap.size + 1) (by omega) (by have := HR.out.2.2.2; have := bel.size; omega) E Y N U)
    have HZ := Lib.hid (anW_blk bx E Y N U)
    clear HC bel
    have z0 := bx.cell 0
    have z1 := bx.cell 1
    have z2 := bx.cell 2
    have z3 := bx.cell 3
    have zf := bx.frozen
    have zl := bx.lt
    clear bx HR
    go_wp2
    unfold anW at HE HZ
    generalize (((w1.setCell ⟨w.heap.size + 1, 0, none⟩ (.int .i64 E)).setCell ⟨w.heap.size + 1, 1, none⟩ (.bool Y)).setCell ⟨w.heap.size + 1, 2, none⟩ (.int .i64 N)).setCell ⟨w.heap.size + 1, 3, none⟩ (.int .u64 U) = V at HE HZ ⊢
    have y0 := HZ.out.cell 0
    have y1 := HZ.out.cell 1
    have y2 := HZ.out.cell 2
    have y3 := HZ.out.cell 3
    refine bodyPost_ret (v := anV E Y N U) (by simp [results, Try.results11, go_sem, y0, y1, y2, y3]) rfl ?_
    exact HE.out

theorem doP_new (r : Pg w g S G) (e : Int) : DoP w g S G e false 0 0 (.returned (anV e false 0 0)) ((w.alloc (stB k a b c v)).alloc (.cells #[.int .i64 e, .bool false, .int .i64 0, .int .u64 0] 30)) := by
  have al : Below w.heap.size w ((w.alloc (stB k a b c v)).alloc (.cells #[.int .i64 e, .bool false, .int .i64 0, .int .u64 0] 30)) := ((Below.refl _ _).alloc (Nat.le_refl _) _).alloc (by simp) _
  exact ⟨rfl, S, r.keep al, Mv.of_below al⟩

set_option maxRecDepth 100000 in
set_option maxHeartbeats 8000000 in
theorem pgDo_idle (hk : k = 11 ∨ k = 12) (r : Pg w g S G) :
    Calls Try.prog 11 #[gP g, sgV k a b c v] w fun e w' => DoP w g S G (if a = 0 ∨ a = 1 then 0 else 1) false 0 0 e w' := by
  have HE := fun E => Lib.hid (doP_new w g S G k a b c v r E)
  have HC := Lib.hid (cyc_any a ((w.alloc (stB k a b c v)).alloc anB))
  generalize (if a = 0 ∨ a = 1 then (0 : Int) else 1) = E at *
  have HE := HE E
  clear r
  unfold gP
  rcases hk with rfl | rfl
  all_goals
    go_enter Try.func11, Try.ntmps11
    go_wp2_with fail
    refine HC.out.mono ?_
    rintro e w1 ⟨rfl, rfl⟩
    clear HC
    go_wp2
    refine bodyPost_ret (v := anV E false 0 0) (by simp [results, Try.results11, go_sem]) rfl ?_
    exact HE.out

set_option maxRecDepth 100000 in
set_option maxHeartbeats 8000000 in
theorem pgDo_other (hk : k < 1 ∨ 12 < k) (r : Pg w g S G) :
    Calls Try.prog 11 #[gP g, sgV k a b c v] w fun e w' => DoP w g S G 1 false 0 0 e w' := by
  have H1 := Lib.hid (doP_new w g S G k a b c v r 1)
  have k1 : ¬ k = 1 := by omega
  have k2 : ¬ k = 2 := by omega
  have k3 : ¬ k = 3 := by omega
  have k4 : ¬ k = 4 := by omega
  have k5 : ¬ k = 5 := by omega
  have k6 : ¬ k = 6 := by omega
  have k7 : ¬ k = 7 := by omega
  have k8 : ¬ k = 8 := by omega
  have k9 : ¬ k = 9 := by omega
  have k10 : ¬ k = 10 := by omega
  have k11 : ¬ k = 11 := by omega
  have k12 : ¬ k = 12 := by omega
  clear r hk
  unfold gP
  go_enter Try.func11, Try.ntmps11
  go_wp2
  refine bodyPost_ret (v := anV 1 false 0 0) (by simp [results, Try.results11, go_sem]) rfl ?_
  exact H1.out

set_option maxRecDepth 100000 in
set_option maxHeartbeats 8000000 in
/-- A graph that is none. -/
theorem pgDo_none : Calls Try.prog 11 #[.pointer none, sgV k a b c v] w fun e w' => e = .returned (anV 1 false 0 0) ∧ Below w.heap.size w w' := by
  have al : Below w.heap.size w ((w.alloc (stB k a b c v)).alloc (.cells #[.int .i64 1, .bool false, .int .i64 0, .int .u64 0] 30)) := ((Below.refl _ _).alloc (Nat.le_refl _) _).alloc (by simp) _
  have H1 := Lib.hid al
  clear al
  go_enter Try.func11, Try.ntmps11
  go_wp2
  refine bodyPost_ret (v := anV 1 false 0 0) (by simp [results, Try.results11, go_sem]) rfl ?_
  exact ⟨rfl, H1.out⟩
end

/-- What an entry is answered, and what it comes to: of the lists alone. -/
def Gr.ans (G : Gr) (k a b c v : Int) : Int × Bool × Int × Int := if k = 1 ∨ k = 2 ∨ k = 3 ∨ k = 5 ∨ k = 6 ∨ k = 7 then ((G.change k a b c v).1, false, 0, 0) else G.ask k a b
def Gr.nxt (G : Gr) (k a b c v : Int) : Gr := if k = 1 ∨ k = 2 ∨ k = 3 ∨ k = 5 ∨ k = 6 ∨ k = 7 then (G.change k a b c v).2 else G

theorem Gr.ask_idle (H : Gr) {k a p : Int} (hk : k = 11 ∨ k = 12) : H.ask k a p = (if a = 0 ∨ a = 1 then 0 else 1, false, 0, 0) := by
  unfold Gr.ask
  rw [if_neg (by omega), if_neg (by omega), if_neg (by omega), if_neg (by omega)]
  by_cases h : a = 0 ∨ a = 1
  · rw [if_pos ⟨hk, h⟩, if_pos h]
  · rw [if_neg fun z => h z.2, if_neg h]
theorem Gr.ask_other (H : Gr) {k a p : Int} (hk : k < 1 ∨ 12 < k) : H.ask k a p = (1, false, 0, 0) := by
  unfold Gr.ask
  rw [if_neg (by omega), if_neg (by omega), if_neg (by omega), if_neg (by omega), if_neg (by omega)]

def AnsP (w : World) (g : Nat) (S : Nat → Prop) (G' : Gr) (y : Int × Bool × Int × Int) (en : Ending) (w' : World) : Prop :=
  en = .returned (anV y.1 y.2.1 y.2.2.1 y.2.2.2) ∧ ∃ S', Pg w' g S' G' ∧ Mv S S' w w'

/-- An entry of a script. -/
theorem pgDo {w : World} {g : Nat} {S : Nat → Prop} {G : Gr} {k a b c v : Int} (r : Pg w g S G) (hc0 : -9223372036854775808 ≤ c) (hc1 : c ≤ 9223372036854775807) :
    Calls Try.prog 11 #[gP g, sgV k a b c v] w (AnsP w g S (G.nxt k a b c v) (G.ans k a b c v)) := by
  unfold Gr.ans Gr.nxt
  by_cases hk : k = 1 ∨ k = 2 ∨ k = 3 ∨ k = 5 ∨ k = 6 ∨ k = 7
  · rw [if_pos hk, if_pos hk]
    exact (pgDo_change w g S G k a b c v hk r hc0 hc1).mono fun e w' h => h
  · rw [if_neg hk, if_neg hk]
    rcases (show (k = 4 ∨ k = 8 ∨ k = 9 ∨ k = 10) ∨ (k = 11 ∨ k = 12) ∨ (k < 1 ∨ 12 < k) by omega) with h | h | h
    · exact (pgDo_ask w g S G k a b c v h r).mono fun e w' h => h
    · rw [Gr.ask_idle G h]
      exact (pgDo_idle w g S G k a b c v h r).mono fun e w' h => h
    · rw [Gr.ask_other G h]
      exact (pgDo_other w g S G k a b c v h r).mono fun e w' h => h
end Go.Proofs.Ytjjjeeffllelaaa

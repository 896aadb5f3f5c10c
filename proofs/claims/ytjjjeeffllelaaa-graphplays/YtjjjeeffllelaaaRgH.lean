
/- Contracts of the document's graph: Do, an entry of a script. -/
import Derived.Test.YtjjjeeffllelaaaRgF
import Derived.Test.YtjjjeeffllelaaaRgN
namespace Go.Proofs.Ytjjjeeffllelaaa
open Go.RowKit

/-- What an entry comes to. -/
def DoR (w : World) (g : Nat) (S : Nat → Prop) (G' : Gr) (e : Int) (y : Bool) (n v : Int) (en : Ending) (w' : World) : Prop :=
  en = .returned (anV e y n v) ∧ ∃ S', Rg w' g S' G' ∧ Mv S S' w w'

theorem doR_end {w w2 w1 : World} {g : Nat} {S S' : Nat → Prop} {G G' : Gr} {k : Nat} (r : Rg w g S G) (f : Below w.heap.size w w2) (mv : Mv S S' w2 w1) (r1 : Rg w1 g S' G') (k0 : w.heap.size ≤ k) (k1 : k < w2.heap.size) (e : Int) (y : Bool) (n v : Int) :
    DoR w g S G' e y n v (.returned (anV e y n v)) (anW w1 k e y n v) := by
  have nk : ¬ S' k := fun h => by
    rcases mv.at_ k h with h | h
    · have := r.lt h; omega
    · omega
  have fr := anW_frm w1 k e y n v
  refine ⟨rfl, S', r1.frm fr (fun j hj e => nk (e ▸ hj)), ?_, fun j hj => ?_⟩
  · refine ⟨fr.os.trans (mv.frm.os.trans f.os), fr.tape.trans (mv.frm.tape.trans f.tape), fr.output.trans (mv.frm.output.trans f.output), Nat.le_trans f.size (Nat.le_trans mv.frm.size fr.size), fun j hj hn => ?_⟩
    rw [fr.block j (Nat.lt_of_lt_of_le hj (Nat.le_trans f.size mv.frm.size)) (by omega), mv.frm.block j (Nat.lt_of_lt_of_le hj f.size) hn, f.block j hj]
  · exact (mv.at_ j hj).imp id fun h => Nat.le_trans f.size h

set_option maxRecDepth 100000 in
set_option maxHeartbeats 8000000 in
theorem rgDo_change (w : World) (g : Nat) (S : Nat → Prop) (G : Gr) (k a b c v : Int) (hk : turnsK k) (r : Rg w g S G)
    (hc : ∀ w1, Rg w1 g S G → Calls Try.prog 30 #[.pointer (some ⟨g, 0, none⟩), sgV k a b c v] w1 fun e w' => ChR w1 g S G k a b c v e w') :
    Calls Try.prog 12 #[.pointer (some ⟨g, 0, none⟩), sgV k a b c v] w fun e w' => DoR w g S (G.change k a b c v).2 (G.change k a b c v).1 false 0 0 e w' := by
  have al : Below w.heap.size w ((w.alloc (stB k a b c v)).alloc anB) := ((Below.refl _ _).alloc (Nat.le_refl _) _).alloc (by simp) _
  have sz : ((w.alloc (stB k a b c v)).alloc anB).heap.size = w.heap.size + 2 := by simp
  have bx := Blk.new (w.alloc (stB k a b c v)) #[.int .i64 0, .bool false, .int .i64 0, .int .u64 0] 30
  rw [show (w.alloc (stB k a b c v)).heap.size = w.heap.size + 1 by simp] at bx
  have hc0 := hc _ (r.keep al)
  unfold ChR at hc0
  generalize G.change k a b c v = X at hc0 ⊢
  obtain ⟨E, G2⟩ := X
  dsimp only at hc0 ⊢
  have HC := Lib.hid hc0
  clear hc0
  have HR := Lib.hid (And.intro r (And.intro al (And.intro bx sz)))
  clear hc r al bx sz
  rcases hk with rfl | rfl | rfl | rfl | rfl | rfl
  all_goals
    go_enter Try.func12, Try.ntmps12
    go_wp2_with fail
    refine HC.out.mono ?_
    rintro e w1 ⟨rfl, S', r1, mv⟩
    have bx := HR.out.2.2.1.frm mv.frm (fun e => by have := HR.out.1.lt e; omega)
    have HE := Lib.hid (doR_end HR.out.1 HR.out.2.1 mv r1 (k := w.heap.size + 1) (by omega) (by have := HR.out.2.2.2; omega) E false 0 0)
    have HZ := Lib.hid (anW_blk bx E false 0 0)
    have z0 := bx.cell 0
    have z1 := bx.cell 1
    have z2 := bx.cell 2
    have z3 := bx.cell 3
    have zf := bx.frozen
    have zl := bx.lt
    clear bx r1 mv HC HR
    go_wp2
    unfold anW at HE HZ
    generalize (((w1.setCell ⟨w.heap.size + 1, 0, none⟩ (.int .i64 E)).setCell ⟨w.heap.size + 1, 1, none⟩ (.bool false)).setCell ⟨w.heap.size + 1, 2, none⟩ (.int .i64 0)).setCell ⟨w.heap.size + 1, 3, none⟩ (.int .u64 0) = V at HE HZ ⊢
    have y0 := HZ.out.cell 0
    have y1 := HZ.out.cell 1
    have y2 := HZ.out.cell 2
    have y3 := HZ.out.cell 3
    refine bodyPost_ret (v := anV E false 0 0) (by simp [results, Try.results12, go_sem, y0, y1, y2, y3]) rfl ?_
    exact HE.out
end Go.Proofs.Ytjjjeeffllelaaa

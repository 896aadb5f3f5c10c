
/- Flags in memory: made, read, set; of no program's own functions. -/
import Derived.Test.YtjjjeeffllelaaaFrm
import Derived.Laws.MakeOwn
import Derived.OwnWalk
import Derived.Deep.QuietTactic
namespace Go.Proofs.Ytjjjeeffllelaaa
open Go.RowKit

theorem madeB (n : Nat) : madeCells (Value.bool false).cells n = ((List.replicate n false).map Value.bool).toArray := by
  apply Array.ext
  · simp [madeCells]
  · intro i h1 h2
    simp [madeCells, Value.cells, Nat.mod_one]

theorem info_bool : (Try.prog.info? 4).map (fun i => (i.zero, i.size, i.bytes)) = some (some (.bool false), 1, 1) := by kernel_rfl

/-- Flags that are made. -/
theorem run_make_bool (n : Int) (h0 : 0 ≤ n) (h1 : n ≤ 1073741824) (w : World) :
    (Instr.makeSlice 80 (.int .i64 n) (.int .i64 n)).run Try.prog w = .ok (.slice (some ⟨w.heap.size, 0, none⟩) n.toNat n.toNat) (w.alloc (.cells ((List.replicate n.toNat false).map Value.bool).toArray 4)) := by
  obtain ⟨i, hi, hz, hs, hb⟩ := info_parts info_bool
  have h := run_make (P := Try.prog) w 80 4 i _ Try.underlying80 hi hz .i64 .i64 n n h0 (Int.le_refl _) (by rw [hb]; omega) (by omega)
  rw [hs, Nat.mul_one, madeB] at h
  exact h

theorem Blk.bools {w : World} {b : Nat} {t : TypeId} {ps : List Bool} (h : Blk w b (ps.map Value.bool).toArray t) {i : Nat} {x : Bool} (hx : ps[i]? = some x) : w.cell? ⟨b, i, none⟩ = some (.bool x) := by
  rw [h.cell]; simp [hx]

theorem Blk.setBool {w : World} {b : Nat} {t : TypeId} {ps : List Bool} (h : Blk w b (ps.map Value.bool).toArray t) (i : Nat) (x : Bool) : Blk (w.setCell ⟨b, i, none⟩ (.bool x)) b ((ps.set i x).map Value.bool).toArray t := by
  have := h.set_ i (.bool x)
  have e : (ps.map Value.bool).toArray.setIfInBounds i (.bool x) = ((ps.set i x).map Value.bool).toArray := by
    apply Array.ext'
    simp
  rw [← e]
  exact this

theorem ret_bool {p q : Bool} (h : p = q) : Ending.returned (.bool p) = .returned (.bool q) := by rw [h]
theorem ret_int {k : IntKind} {a b : Int} (h : a = b) : Ending.returned (.int k a) = .returned (.int k b) := by rw [h]
theorem ret_pair {a b : Int} {p q : Bool} (h : a = b) (k : p = q) : Ending.returned (.tuple #[.int .i64 a, .bool p]) = .returned (.tuple #[.int .i64 b, .bool q]) := by rw [h, k]
theorem ret_two {a b c d : Int} (h : a = b) (k : c = d) : Ending.returned (.tuple #[.int .i64 a, .int .i64 c]) = .returned (.tuple #[.int .i64 b, .int .i64 d]) := by rw [h, k]

theorem below_drewN (w : World) (m : Nat) : Below w.heap.size w (w.drewN m) := ⟨rfl, rfl, rfl, Nat.le_refl _, fun _ _ => rfl⟩
theorem below_drew (w : World) : Below w.heap.size w w.drew := ⟨rfl, rfl, rfl, Nat.le_refl _, fun _ _ => rfl⟩
theorem Frm.drewN {S : Nat → Prop} {a w : World} (h : Frm S a w) (m : Nat) : Frm S a (w.drewN m) := ⟨h.os, h.tape, h.output, h.size, h.block⟩
end Go.Proofs.Ytjjjeeffllelaaa

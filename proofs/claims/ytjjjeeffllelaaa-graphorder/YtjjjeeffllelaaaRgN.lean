
/- Entries of a script and their answers, as values; what an entry that asks is answered. -/
import Derived.Test.YtjjjeeffllelaaaRgA
namespace Go.Proofs.Ytjjjeeffllelaaa
open Go.RowKit

abbrev anV (e : Int) (y : Bool) (n v : Int) : Value := .agg #[.int .i64 e, .bool y, .int .i64 n, .int .u64 v]

/-- An entry that asks, and what it answers: an error, a flag, a number, a word. -/
def Gr.ask (G : Gr) (k a b : Int) : Int × Bool × Int × Int :=
  if k = 4 then
    if G.wrong a = 0 then
      if 0 ≤ b ∧ b < (G.node (G.held a)).2.length then (0, false, 0, (G.node (G.held a)).2.getD b.toNat 0) else (5, false, 0, 0)
    else (G.wrong a, false, 0, 0)
  else if k = 10 then
    if G.wrong a = 0 then (0, false, (G.node (G.held a)).1.length, (G.node (G.held a)).2.length) else (G.wrong a, false, 0, 0)
  else if k = 8 then
    if G.has a = true ∧ G.has b = true then (0, G.held a == G.held b, 0, 0) else (3, false, 0, 0)
  else if k = 9 then
    if G.has a = true then (0, G.held a == 0, 0, 0) else (3, false, 0, 0)
  else if (k = 11 ∨ k = 12) ∧ (a = 0 ∨ a = 1) then (0, false, 0, 0)
  else (1, false, 0, 0)

/-- Does an entry change something? -/
def turnsK (k : Int) : Prop := k = 1 ∨ k = 2 ∨ k = 3 ∨ k = 5 ∨ k = 6 ∨ k = 7

abbrev anB : Obj := .cells #[.int .i64 0, .bool false, .int .i64 0, .int .u64 0] 30
/-- An answer, laid into its box. -/
abbrev anW (w : World) (k : Nat) (e : Int) (y : Bool) (n v : Int) : World := (((w.setCell ⟨k, 0, none⟩ (.int .i64 e)).setCell ⟨k, 1, none⟩ (.bool y)).setCell ⟨k, 2, none⟩ (.int .i64 n)).setCell ⟨k, 3, none⟩ (.int .u64 v)

theorem anW_blk {w : World} {k : Nat} (h : Blk w k #[.int .i64 0, .bool false, .int .i64 0, .int .u64 0] 30) (e : Int) (y : Bool) (n v : Int) : Blk (anW w k e y n v) k #[.int .i64 e, .bool y, .int .i64 n, .int .u64 v] 30 :=
  (((h.set_ 0 _).set_ 1 _).set_ 2 _).set_ 3 _

theorem anW_frm (w : World) (k : Nat) (e : Int) (y : Bool) (n v : Int) : Frm (fun j => j = k) w (anW w k e y n v) :=
  ((((Frm.refl (fun j => j = k) w).setCell (p := ⟨k, 0, none⟩) (fun _ => rfl) _).setCell (p := ⟨k, 1, none⟩) (fun _ => rfl) _).setCell (p := ⟨k, 2, none⟩) (fun _ => rfl) _).setCell (p := ⟨k, 3, none⟩) (fun _ => rfl) _
end Go.Proofs.Ytjjjeeffllelaaa

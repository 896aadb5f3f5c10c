/- A buffer in memory; contracts of the program's row. -/
import Derived.Test.YtfjojpfknjdjiaaQuA
import Derived.Deep.QuietTactic
import Derived.BigQuiet
import Derived.BigRegion
import Derived.IntWalk
namespace Go.Proofs.Ytfjojpfknjdjiaa
open Go.RowKit

/-- Block b is a buffer with room for M, whose slice (A, n, c) holds xs. -/
structure IsBuf (w : World) (b : Nat) (M : Int) (A : Option Addr) (n c : Nat) (xs : List Int) : Prop where
  blk : Blk w b #[.slice A n c, .int .i64 M] 69
  row : Qu w A n c xs
  m0 : 0 ≤ M
  m1 : M ≤ 1048576
  few : (n : Int) ≤ M

abbrev bfP (b : Nat) : Value := .pointer (some ⟨b, 0, none⟩)

/-- Only the buffer has turned; its slice lies where it lay, or in a new block. -/
structure BufT (b : Nat) (A A' : Option Addr) (w w' : World) : Prop where
  frm : Frm (fun k => k = b ∨ blkOf A = some k) w w'
  at_ : ∀ k, blkOf A' = some k → blkOf A = some k ∨ w.heap.size ≤ k

theorem BufT.of_below {b : Nat} {A : Option Addr} {w w' : World} (h : Below w.heap.size w w') : BufT b A A w w' := ⟨Frm.of_below h, fun _ hk => .inl hk⟩

section
variable {w w' : World} {b : Nat} {M : Int} {A : Option Addr} {n c : Nat} {xs : List Int}
theorem IsBuf.ne (h : IsBuf w b M A n c xs) {k : Nat} (hk : blkOf A = some k) : b ≠ k := by
  rcases h.row.lies with ⟨rfl, _⟩ | ⟨g, off, cs, rfl, hb, _⟩
  · cases hk
  · cases hk
    exact Blk.ne_ h.blk hb (by decide)
theorem IsBuf.lt (h : IsBuf w b M A n c xs) : b < w.heap.size := h.blk.lt
theorem IsBuf.keep (h : IsBuf w b M A n c xs) (f : Below w.heap.size w w') : IsBuf w' b M A n c xs := { h with blk := h.blk.keep f, row := h.row.keep f }
theorem IsBuf.frm {S : Nat → Prop} (h : IsBuf w b M A n c xs) (f : Frm S w w') (hb : ¬ S b) (hs : ∀ k, blkOf A = some k → ¬ S k) : IsBuf w' b M A n c xs := { h with blk := h.blk.frm f hb, row := h.row.frm f hs }
theorem IsBuf.two (h : IsBuf w b M A n c xs) : w.cell? ⟨b, 0, none⟩ = some (.slice A n c) ∧ w.cell? ⟨b, 1, none⟩ = some (.int .i64 M) ∧ (∀ i, w.frozen? ⟨b, i, none⟩ = false) := ⟨h.blk.cell 0, h.blk.cell 1, h.blk.frozen⟩
end

set_option maxHeartbeats 1000000 in
theorem rcount_any (b : Nat) (M : Int) (A : Option Addr) (n c : Nat) (xs : List Int) (w : World) (h : IsBuf w b M A n c xs) :
    Calls Try.prog 34 #[bfP b] w fun e w' => e = .returned (.int .i64 n) ∧ w = w' := by
  obtain ⟨c0, c1, cf⟩ := h.two
  clear h c1 cf
  go_enter Try.func34, Try.ntmps34
  go_wp2
  go_ret
  exact ⟨rfl, rfl⟩

set_option maxHeartbeats 1000000 in
theorem rtake_no (b : Nat) (M : Int) (A : Option Addr) (c : Nat) (w : World) (h : IsBuf w b M A 0 c []) :
    Calls Try.prog 38 #[bfP b] w fun e w' => e = .returned (.tuple #[.int .i64 0, .bool false]) ∧ w = w' := by
  obtain ⟨c0, c1, cf⟩ := h.two
  clear h c1 cf
  go_enter Try.func38, Try.ntmps38
  go_wp2
  go_ret2
  exact ⟨rfl, rfl⟩

/-- A buffer's slice is laid anew. -/
theorem IsBuf.set {w : World} {b : Nat} {M : Int} {A A' : Option Addr} {n c n' c' : Nat} {xs xs' : List Int} (h : IsBuf w b M A n c xs) (q : Qu w A' n' c' xs') (few : (n' : Int) ≤ M) :
    IsBuf (w.setCell ⟨b, 0, none⟩ (.slice A' n' c')) b M A' n' c' xs' :=
  ⟨h.blk.set_ 0 _, q.frm (S := fun k => k = b) (Frm.setCell (S := fun k => k = b) (Frm.refl _ _) (p := ⟨b, 0, none⟩) (fun _ => rfl) _) (fun k hk e => by
    subst e
    rcases q.lies with ⟨rfl, _⟩ | ⟨g, off, cs, rfl, hb, _⟩
    · cases hk
    · cases hk
      exact Blk.ne_ h.blk hb (by decide) rfl), h.m0, h.m1, few⟩

set_option maxHeartbeats 2000000 in
theorem rtake_yes (b : Nat) (M : Int) (A : Option Addr) (n c : Nat) (x : Int) (xs : List Int) (w : World) (h : IsBuf w b M A (n + 1) c (x :: xs)) :
    Calls Try.prog 38 #[bfP b] w fun e w' => e = .returned (.tuple #[.int .i64 x, .bool true]) ∧ ∃ A' c', IsBuf w' b M A' n c' xs ∧ BufT b A A' w w' := by
  obtain ⟨g, off, rfl, hg, hx, hf⟩ := h.row.at_ (by omega)
  have x0 := hx 0 x rfl
  rw [Nat.add_zero] at x0
  obtain ⟨c0, c1, cf⟩ := h.two
  have hne : b ≠ g := h.ne rfl
  have few := h.few
  have m1 := h.m1
  have le := h.row.le
  have cm := h.row.max
  unfold maxLen at cm
  by_cases hc : c = 1
  · subst hc
    obtain ⟨q, rfl⟩ := h.row.tail1
    have HB := Lib.hid (h.set (n' := 0) q (by omega))
    clear h q hx hf c1
    go_enter Try.func38, Try.ntmps38
    go_wp2
    go_ret2
    exact ⟨rfl, _, _, HB.out, (Frm.refl _ _).setCell (fun _ => .inl rfl) _, fun k hk => .inl hk⟩
  · have HB := Lib.hid (h.set (n' := n) (h.row.tail (by omega)) (by omega))
    clear h hx hf c1
    go_enter Try.func38, Try.ntmps38
    go_wp2
    go_ret2
    exact ⟨rfl, _, _, HB.out, (Frm.refl _ _).setCell (fun _ => .inl rfl) _, fun k hk => .inl hk⟩
end Go.Proofs.Ytfjojpfknjdjiaa

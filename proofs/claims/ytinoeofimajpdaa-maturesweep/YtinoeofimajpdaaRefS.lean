/- The document's space (cells in a list, pages that are pending) as it lies in memory; contract of which page a place is in. -/
import Derived.Test.YtinoeofimajpdaaRefN
import Derived.Test.YtinoeofimajpdaaFrm
import Derived.Laws.AppendOwn
import Derived.Maps.AppendAt
import Derived.Deep.AppendLies
import Derived.Deep.DeepCutAuto
import Derived.Deep.CutBlock
import Derived.BigQuiet
import Derived.IntWalk
namespace Go.Proofs.Ytinoeofimajpdaa
open Go.RowKit

/-- Something in use, or not, in a block; or something large. -/
structure Rc where
  pos : Int
  words : Int
  used : Bool
  large : Bool

def Rc.vs (c : Rc) : List Value := [.int .i64 c.pos, .int .i64 c.words, .bool c.used, .bool c.large]
def rcV (cs : List Rc) : List Value := cs.flatMap Rc.vs

def spP (a : Nat) : Value := .pointer (some ⟨a, 0, none⟩)

/-- What is asked of a cell's numbers. -/
def Sane (c : Rc) : Prop := 0 ≤ c.pos ∧ c.pos ≤ 2097152 ∧ 1 ≤ c.words ∧ c.words ≤ 2097152

/-- The document's space lies in block a, its cells in the row that v names, its pending pages in block pb. -/
structure IsRf (w : World) (a : Nat) (F P G : Int) (v : Value) (cs : List Rc) (pb : Nat) (ps : List Bool) : Prop where
  sp : Blk w a #[.int .i64 F, .int .i64 P, .int .i64 G, v, .slice (some ⟨pb, 0, none⟩) ps.length ps.length] 35
  row : w.ownsRow 0 58 4 v cs.length (rcV cs)
  pend : Blk w pb (ps.map Value.bool).toArray 4
  f0 : 0 ≤ F
  f1 : F ≤ 1048576
  g0 : 1 ≤ G
  g1 : G ≤ 256
  p1 : ps.length ≤ 64
  pl : P = ps.length
  sane : ∀ c ∈ cs, Sane c
  few : cs.length ≤ 1000000

theorem rcV_length (cs : List Rc) : (rcV cs).length = cs.length * 4 := by
  induction cs with
  | nil => rfl
  | cons c cs ih => simp only [rcV, List.flatMap_cons, List.length_append, List.length_cons] at ih ⊢; rw [ih]; simp [Rc.vs]; omega

theorem rcV_at (cs : List Rc) (i j : Nat) (c : Rc) (h : cs[i]? = some c) (hj : j < 4) : (rcV cs)[i * 4 + j]? = c.vs[j]? := by
  induction cs generalizing i with
  | nil => simp at h
  | cons d cs ih =>
    cases i with
    | zero =>
      obtain rfl : d = c := by simpa using h
      simp only [rcV, List.flatMap_cons, Nat.zero_mul, Nat.zero_add]
      exact List.getElem?_append_left (by simpa [Rc.vs] using hj)
    | succ i =>
      have := ih i (by simpa using h)
      rw [← this]
      simp only [rcV, List.flatMap_cons]
      rw [List.getElem?_append_right (by simp [Rc.vs]; omega)]
      congr 1
      simp [Rc.vs]
      omega

/-- The row of the cells: none, or a block. -/
theorem IsRf.lies {w : World} {a : Nat} {F P G : Int} {v : Value} {cs : List Rc} {pb : Nat} {ps : List Bool} (h : IsRf w a F P G v cs pb ps) :
    ∃ ao cap, v = .slice ao cs.length cap ∧ ∀ i c, cs[i]? = some c → ∃ g, ao = some ⟨g, 0, none⟩ ∧ g < w.heap.size ∧ w.cell? ⟨g, i * 4, none⟩ = some (.int .i64 c.pos) ∧ w.cell? ⟨g, i * 4 + 1, none⟩ = some (.int .i64 c.words) ∧
      w.cell? ⟨g, i * 4 + 2, none⟩ = some (.bool c.used) ∧ w.cell? ⟨g, i * 4 + 3, none⟩ = some (.bool c.large) ∧ (∀ k, w.frozen? ⟨g, k, none⟩ = false) := by
  rcases h.row.2 with ⟨rfl, h0⟩ | ⟨g, cap, cur, rfl, _, hg, hn, hm, hs, ht⟩
  · refine ⟨none, 0, by rw [h0], fun i c hi => ?_⟩
    obtain ⟨hh, _⟩ := List.getElem?_eq_some_iff.1 hi
    omega
  · refine ⟨some ⟨g, 0, none⟩, cap, rfl, fun i c hi => ⟨g, rfl, (Array.getElem?_eq_some_iff.1 hg).1, ?_⟩⟩
    have hB : Blk w g cur 58 := hg
    have hil : i < cs.length := (List.getElem?_eq_some_iff.1 hi).1
    have cell : ∀ j, j < 4 → w.cell? ⟨g, i * 4 + j, none⟩ = c.vs[j]? := fun j hj => by
      rw [hB.cell, ← rcV_at cs i j c hi hj, ← ht, List.getElem?_take_of_lt (by omega), Array.getElem?_toList]
    exact ⟨cell 0 (by omega), cell 1 (by omega), cell 2 (by omega), cell 3 (by omega), hB.frozen⟩

def ofI (F G n : Int) : Int := (n - F).tdiv G

theorem ofI_in {F G n : Int} (f0 : 0 ≤ F) (f1 : F ≤ 1048576) (g0 : 1 ≤ G) (n0 : -1099511627776 ≤ n) (n1 : n ≤ 1099511627776) : -2199023255552 ≤ ofI F G n ∧ ofI F G n ≤ 2199023255552 := by
  unfold ofI
  rcases Int.lt_or_le (n - F) 0 with h | h
  · obtain ⟨q, hq⟩ : ∃ q, n - F = - q := ⟨-(n - F), by omega⟩
    rw [hq, Int.neg_tdiv, tdiv_of (by omega)]
    have := Int.ediv_nonneg (show 0 ≤ q by omega) (show 0 ≤ G by omega)
    have := Int.ediv_le_self G (show 0 ≤ q by omega)
    omega
  · rw [tdiv_of h]
    have := Int.ediv_nonneg h (show 0 ≤ G by omega)
    have := Int.ediv_le_self G h
    omega

theorem Blk.five {w : World} {b : Nat} {t : TypeId} {v0 v1 v2 v3 v4 : Value} (h : Blk w b #[v0, v1, v2, v3, v4] t) :
    w.cell? ⟨b, 0, none⟩ = some v0 ∧ w.cell? ⟨b, 1, none⟩ = some v1 ∧ w.cell? ⟨b, 2, none⟩ = some v2 ∧ w.cell? ⟨b, 3, none⟩ = some v3 ∧ w.cell? ⟨b, 4, none⟩ = some v4 ∧ (∀ i, w.frozen? ⟨b, i, none⟩ = false) :=
  ⟨h.cell 0, h.cell 1, h.cell 2, h.cell 3, h.cell 4, h.frozen⟩

set_option maxHeartbeats 1000000 in
theorem of_any (a : Nat) (F P G n : Int) (v u : Value) (w : World) (h : Blk w a #[.int .i64 F, .int .i64 P, .int .i64 G, v, u] 35)
    (f0 : 0 ≤ F) (f1 : F ≤ 1048576) (g0 : 1 ≤ G) (n0 : -1099511627776 ≤ n) (n1 : n ≤ 1099511627776) :
    Calls Try.prog 36 #[spP a, .int .i64 n] w fun e w' => e = .returned (.int .i64 (ofI F G n)) ∧ ∃ m, w' = w.drewN m := by
  obtain ⟨c0, c1, c2, c3, c4, cf⟩ := h.five
  have hin := ofI_in f0 f1 g0 n0 n1
  obtain ⟨q, hq⟩ : ∃ q, ofI F G n = q := ⟨_, rfl⟩
  rw [hq] at hin ⊢
  have hq : (n - F).tdiv G = q := hq
  clear c1 c3 c4 h
  unfold spP
  go_enter Try.func36, Try.ntmps36
  go_wp2_with fail
  go_quiet (fail)
  go_wp2
  go_ret
  exact ⟨rfl, _, rfl⟩
theorem below_drewN (w : World) (m : Nat) : Below w.heap.size w (w.drewN m) := ⟨rfl, rfl, rfl, Nat.le_refl _, fun _ _ => rfl⟩

theorem ownsRow_keep {w w' : World} {e : TypeId} {k : Nat} {v : Value} {n : Nat} {xs : List Value} (h : w.ownsRow 0 e k v n xs) (b : Below w.heap.size w w') : w'.ownsRow 0 e k v n xs := by
  refine ⟨h.1, h.2.imp id ?_⟩
  rintro ⟨g, cap, cur, e1, e2, e3, e4⟩
  exact ⟨g, cap, cur, e1, e2, (b.block g (Array.getElem?_eq_some_iff.1 e3).1).trans e3, e4⟩

theorem IsRf.keep {w w' : World} {a : Nat} {F P G : Int} {v : Value} {cs : List Rc} {pb : Nat} {ps : List Bool} (h : IsRf w a F P G v cs pb ps) (b : Below w.heap.size w w') : IsRf w' a F P G v cs pb ps :=
  { h with sp := h.sp.keep b, row := ownsRow_keep h.row b, pend := h.pend.keep b }
end Go.Proofs.Ytinoeofimajpdaa

/- What is asked of the program's space (package mature), as one structure: the statements' walks lean on it alone. And: two lists of the same numbers are the same. -/
import Derived.Test.YtinoeofimajpdaaRefP
namespace Go.Proofs.Ytinoeofimajpdaa
open Go.RowKit

def pendV (ps : List Bool) : Value := match ps.findIdx? id with
  | some i => .tuple #[.int .i64 i, .bool true]
  | none => .tuple #[.int .i64 0, .bool false]

def wasB (ps : List Bool) (n : Int) : Bool := decide (0 ≤ n) && (ps[n.toNat]?).getD false

def doneP (ps : List Bool) (n : Int) : List Bool := if wasB ps n then ps.set n.toNat false else ps

def pageV (F G : Int) (N : Nat) (n : Int) : Value := if 0 ≤ n ∧ n < N then .tuple #[.int .i64 (F + n * G), .int .i64 (F + n * G + G)] else .tuple #[.int .i64 0, .int .i64 0]

/-- The program's space in block b, its own blocks being those of S, says of pages what the document asks. -/
structure MatSpec where
  Is : World → Nat → (Nat → Prop) → Int → Int → List Pg → List Bool → Prop
  lt : ∀ {w b S F G pgs ps}, Is w b S F G pgs ps → ∀ k, S k → k < w.heap.size
  wf : ∀ {w b S F G pgs ps}, Is w b S F G pgs ps → WF G pgs ∧ pgs.length = ps.length ∧ 1 ≤ G ∧ G ≤ 256 ∧ 0 ≤ F ∧ F ≤ 1048576 ∧ ps.length ≤ 64
  stay : ∀ {w w' b S F G pgs ps}, Is w b S F G pgs ps → w.heap.size ≤ w'.heap.size → (∀ k, S k → w'.heap[k]? = w.heap[k]?) → Is w' b S F G pgs ps
  new : ∀ f p g w, Calls Try.prog 8 #[.int .i64 f, .int .i64 p, .int .i64 g] w fun e w' => ∃ b S, e = .returned (spP b) ∧
    Is w' b S (cutI f 0 1048576) (cutI g 1 256) (List.replicate (cutI p 0 64).toNat .free) (List.replicate (cutI p 0 64).toNat false) ∧ Below w.heap.size w w' ∧ ∀ k, S k → w.heap.size ≤ k
  take : ∀ {w b S F G pgs ps} (n : Int), Is w b S F G pgs ps → -9223372036854775808 ≤ n → n ≤ 9223372036854775807 → Calls Try.prog 10 #[spP b, .int .i64 n] w fun e w' => ∃ u pgs' S', e = .returned u ∧ TakeA F G ps pgs n u pgs' ∧ Is w' b S' F G pgs' ps ∧ Frm S w w' ∧ ∀ k, S' k → S k ∨ w.heap.size ≤ k
  give : ∀ {w b S F G pgs ps} (n : Int), Is w b S F G pgs ps → -9223372036854775808 ≤ n → n ≤ 9223372036854775807 → Calls Try.prog 12 #[spP b, .int .i64 n] w fun e w' => ∃ ok pgs' ps' S', e = .returned (.bool ok) ∧ GiveA F G ps pgs n ok pgs' ps' ∧ Is w' b S' F G pgs' ps' ∧ Frm S w w' ∧ ∀ k, S' k → S k ∨ w.heap.size ≤ k
  size : ∀ {w b S F G pgs ps} (n : Int), Is w b S F G pgs ps → -9223372036854775808 ≤ n → n ≤ 9223372036854775807 → Calls Try.prog 20 #[spP b, .int .i64 n] w fun e w' => e = .returned (sizeV (cellsP F G pgs) n) ∧ Below w.heap.size w w'
  starts : ∀ {w b S F G pgs ps} (f t : Int), Is w b S F G pgs ps → -9223372036854775808 ≤ f → f ≤ 9223372036854775807 → -9223372036854775808 ≤ t → t ≤ 9223372036854775807 →
    Calls Try.prog 23 #[spP b, .int .i64 f, .int .i64 t] w fun e w' => ∃ u, e = .returned u ∧ OwnI w' w.heap.size u (startsP F G pgs f t) ∧ Below w.heap.size w w'
  pend : ∀ {w b S F G pgs ps}, Is w b S F G pgs ps → Calls Try.prog 14 #[spP b] w fun e w' => ∃ S', e = .returned (.tuple #[]) ∧ Is w' b S' F G pgs (pgs.map Pg.first) ∧ Frm S w w' ∧ ∀ k, S' k → S k ∨ w.heap.size ≤ k
  pending : ∀ {w b S F G pgs ps}, Is w b S F G pgs ps → Calls Try.prog 24 #[spP b] w fun e w' => e = .returned (pendV ps) ∧ Below w.heap.size w w'
  done : ∀ {w b S F G pgs ps} (n : Int), Is w b S F G pgs ps → -9223372036854775808 ≤ n → n ≤ 9223372036854775807 → Calls Try.prog 16 #[spP b, .int .i64 n] w fun e w' => ∃ S', e = .returned (.bool (wasB ps n)) ∧ Is w' b S' F G pgs (doneP ps n) ∧ Frm S w w' ∧ ∀ k, S' k → S k ∨ w.heap.size ≤ k
  page : ∀ {w b S F G pgs ps} (n : Int), Is w b S F G pgs ps → -9223372036854775808 ≤ n → n ≤ 9223372036854775807 → Calls Try.prog 25 #[spP b, .int .i64 n] w fun e w' => e = .returned (pageV F G ps.length n) ∧ Below w.heap.size w w'
  free : ∀ {w b S F G pgs ps}, Is w b S F G pgs ps → Calls Try.prog 22 #[spP b] w fun e w' => e = .returned (.int .i64 (pgs.countP Pg.isFree : Nat)) ∧ Below w.heap.size w w'
  used : ∀ {w b S F G pgs ps}, Is w b S F G pgs ps → Calls Try.prog 21 #[spP b] w fun e w' => e = .returned (.int .i64 (usedI (cellsP F G pgs))) ∧ Below w.heap.size w w'

theorem MatSpec.keep (M : MatSpec) {w w' : World} {b : Nat} {S : Nat → Prop} {F G : Int} {pgs : List Pg} {ps : List Bool} (h : M.Is w b S F G pgs ps) (k : Below w.heap.size w w') : M.Is w' b S F G pgs ps :=
  M.stay h k.size fun i hi => k.block i (M.lt h i hi)

theorem starts_few {F G f t : Int} {pgs : List Pg} (g1 : G ≤ 256) (wf : WF G pgs) (hN : pgs.length ≤ 64) : (startsP F G pgs f t).length ≤ 4096 := by
  rw [startsP, List.length_map]
  have := cellsP_few (F := F) g1 wf
  have := List.length_filter_le (inB f t) (cellsP F G pgs)
  omega

set_option maxHeartbeats 1000000 in
theorem ints_same (B1 B2 : Nat) (u1 u2 : Value) (ys : List Int) (w : World) (h1 : OwnI w B1 u1 ys) (h2 : OwnI w B2 u2 ys) (hl : ys.length ≤ 4096) :
    Calls Try.prog 45 #[u1, u2] w fun e w' => e = .returned (.bool true) ∧ Below w.heap.size w w' := by
  obtain ⟨a1, cap1, rfl, c1⟩ := h1.at_
  obtain ⟨a2, cap2, rfl, c2⟩ := h2.at_
  have C1 := Lib.hid c1
  have C2 := Lib.hid c2
  clear c1 c2 h1 h2
  go_enter Try.func45, Try.ntmps45
  go_wp2_with fail
  go_loopw [5] (fun s wr => ∃ j m : Nat, j ≤ ys.length ∧ s = .int .i64 j ∧ wr = w.drewN m) (fun s _ => ys.length - (intOf s).toNat)
  case atStart => exact ⟨0, 0, Nat.zero_le _, rfl, rfl⟩
  case round =>
    obtain ⟨j, m, hj, rfl, rfl⟩ := hrel
    by_cases hlt : j < ys.length
    · have hy : ys[j]? = some ys[j] := List.getElem?_eq_getElem hlt
      generalize ys[j] = y at hy
      obtain ⟨g1, rfl, _, _, d1, _⟩ := C1.out j y hy
      obtain ⟨g2, rfl, _, _, d2, _⟩ := C2.out j y hy
      have x1 := d1 j y hy
      have x2 := d2 j y hy
      have j0 : (0 : Int) ≤ (j : Int) := by omega
      have j1 : (j : Int) < (ys.length : Int) := by omega
      clear d1 d2 hy
      go_wp2_with fail
      go_quiet (fail)
      go_wp2
      go_roundw
      case rel => exact ⟨j + 1, _, by omega, by go_num, rfl⟩
      case measure => simp [intOf]; omega
    · obtain rfl : j = ys.length := by omega
      go_wp2
      go_ret
      exact ⟨rfl, below_drewN _ _⟩
end Go.Proofs.Ytinoeofimajpdaa

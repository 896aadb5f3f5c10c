/- Contracts of New, Load, Store. -/
import Derived.Test.YthhbamllnacklaaArenaA
import Derived.Laws.MakeOwn
import Derived.OwnWalk
namespace Go.Proofs.Ythhbamllnacklaa
open Go.RowKit

theorem madeU (n : Nat) : madeCells (Value.int .u64 0).cells n = u64s (List.replicate n 0) := by
  apply Array.ext
  · simp [madeCells, u64s]
  · intro i h1 h2
    simp [madeCells, u64s, Value.cells, Nat.mod_one]

theorem info_u64 : (Try.prog.info? 22).map (fun i => (i.zero, i.size, i.bytes)) = some (some (.int .u64 0), 1, 8) := by kernel_rfl

/-- Words that are made. -/
theorem run_make_u64 (n : Int) (h0 : 0 ≤ n) (h1 : n ≤ 1073741824) (w : World) :
    (Instr.makeSlice 26 (.int .i64 n) (.int .i64 n)).run Try.prog w = .ok (.slice (some ⟨w.heap.size, 0, none⟩) n.toNat n.toNat) (w.alloc (.cells (u64s (List.replicate n.toNat 0)) 22)) := by
  obtain ⟨i, hi, hz, hs, hb⟩ := info_parts info_u64
  have h := run_make (P := Try.prog) w 26 22 i _ Try.underlying26 hi hz .i64 .i64 n n h0 (Int.le_refl _) (by rw [hb]; omega) (by omega)
  rw [hs, Nat.mul_one, madeU] at h
  exact h

def clampN (n : Int) : Nat := (min (max n 0) 1048576).toNat

theorem clamp_le (n : Int) : clampN n ≤ 1048576 := by unfold clampN; omega

theorem isAr_new (w : World) (ws : List Int) (c : Int) : IsAr ((w.alloc (.cells (u64s ws) 22)).alloc (.cells #[.slice (some ⟨w.heap.size, 0, none⟩) ws.length ws.length, .int .i64 c] 64)) (w.heap.size + 1) w.heap.size ws c := by
  refine ⟨?_, (Blk.new w _ _).alloc _⟩
  have h := Blk.new (w.alloc (.cells (u64s ws) 22)) #[.slice (some ⟨w.heap.size, 0, none⟩) ws.length ws.length, .int .i64 c] 64
  simpa using h

theorem new_end (w : World) (n : Int) (k : Nat) (hk : k = clampN n) (p : Value) (hp : p = arP (w.heap.size + 1)) (W : World) (hW : W = (w.alloc (.cells (u64s (List.replicate k 0)) 22)).alloc (.cells #[.slice (some ⟨w.heap.size, 0, none⟩) k k, .int .i64 0] 64)) :
    Ending.returned p = .returned (arP (w.heap.size + 1)) ∧ IsAr W (w.heap.size + 1) w.heap.size (List.replicate (clampN n) 0) 0 ∧ Below w.heap.size w W := by
  subst hk hp hW
  refine ⟨rfl, ?_, ((Below.refl _ _).alloc (Nat.le_refl _) _).alloc (by simp) _⟩
  have h := isAr_new w (List.replicate (clampN n) 0) 0
  rw [List.length_replicate] at h
  exact h

set_option maxHeartbeats 1000000 in
theorem new_any (n : Int) (w : World) :
    Calls Try.prog 22 #[.int .i64 n] w fun e w' => e = .returned (arP (w.heap.size + 1)) ∧ IsAr w' (w.heap.size + 1) w.heap.size (List.replicate (clampN n) 0) 0 ∧ Below w.heap.size w w' := by
  by_cases h0 : n < 0
  · have hmk := run_make_u64 0 (by omega) (by omega)
    have hk : 0 = clampN n := by unfold clampN; omega
    have HK := Lib.hid hk
    clear hk
    go_enter Try.func22, Try.ntmps22
    go_wp2
    go_ret
    exact new_end w n 0 HK.out _ rfl _ rfl
  · by_cases h1 : n ≤ 1048576
    · have hmk := run_make_u64 n (by omega) (by omega)
      have hk : n.toNat = clampN n := by unfold clampN; omega
      have HK := Lib.hid hk
      clear hk
      go_enter Try.func22, Try.ntmps22
      go_wp2
      go_ret
      exact new_end w n _ HK.out _ rfl _ rfl
    · have hmk0 := run_make_u64 1048576 (by omega) (by omega)
      have hk : (1048576 : Int).toNat = clampN n := by unfold clampN; omega
      obtain ⟨K, hK⟩ : ∃ K, K = clampN n := ⟨_, rfl⟩
      rw [hk, ← hK] at hmk0
      have hmk := hmk0
      have HK := Lib.hid hK
      clear hk hmk0 hK
      go_enter Try.func22, Try.ntmps22
      go_wp2
      go_ret
      exact new_end w n _ HK.out _ rfl _ rfl

set_option maxHeartbeats 1000000 in
theorem load_nil (at_ : Int) (w : World) :
    Calls Try.prog 25 #[.pointer none, .int .i64 at_] w fun e w' => e = .returned (.tuple #[.int .u64 0, .int .i64 2]) ∧ w = w' := by
  go_enter Try.func25, Try.ntmps25
  go_wp2_with fail
  refine (has_nil _ _ _).mono ?_
  rintro e w' ⟨rfl, rfl⟩
  go_wp2
  go_ret2
  exact ⟨rfl, rfl⟩

set_option maxHeartbeats 1000000 in
theorem load_no (a b : Nat) (ws : List Int) (c at_ : Int) (w : World) (h : IsAr w a b ws c) (hl : ws.length ≤ 1048576) (a1 : at_ ≤ 9223372036854775807) (hh : hasB ws.length at_ 1 = false) :
    Calls Try.prog 25 #[arP a, .int .i64 at_] w fun e w' => e = .returned (.tuple #[.int .u64 0, .int .i64 2]) ∧ w = w' := by
  go_enter Try.func25, Try.ntmps25
  go_wp2_with fail
  refine (has_any a b ws c _ _ _ h hl a1).mono ?_
  rintro e w' ⟨rfl, rfl⟩
  go_wp2
  go_ret2
  exact ⟨rfl, rfl⟩

/-- A count that has grown. -/
def addC (c n : Int) : Int := wrap64 (c + n)

theorem addC_in (c n : Int) (h0 : -9223372036854775808 ≤ c + n) (h1 : c + n ≤ 9223372036854775807) : addC c n = c + n := by
  unfold addC wrap64; omega

theorem isAr_count {w : World} {a b : Nat} {ws : List Int} {c : Int} (h : IsAr w a b ws c) (d : Int) : IsAr (w.setCell ⟨a, 1, none⟩ (.int .i64 d)) a b ws d :=
  ⟨h.1.set_ 1 _, h.2.far (p := ⟨a, 1, none⟩) (Ne.symm h.ne) _⟩

/-- Only the arena has turned: its words and its count are these. -/
structure Turns (a b : Nat) (ws : List Int) (c : Int) (w w' : World) : Prop where
  is : IsAr w' a b ws c
  frm : Frm (fun k => k = a ∨ k = b) w w'
  size : w'.heap.size = w.heap.size

theorem turns_count {w : World} {a b : Nat} {ws : List Int} {c : Int} (h : IsAr w a b ws c) (d : Int) : Turns a b ws d w (w.setCell ⟨a, 1, none⟩ (.int .i64 d)) :=
  ⟨isAr_count h d, (Frm.refl _ w).setCell (p := ⟨a, 1, none⟩) (fun _ => .inl rfl) _, by simp [World.setCell]⟩

set_option maxHeartbeats 1000000 in
theorem load_yes (a b : Nat) (ws : List Int) (c : Int) (k : Nat) (x : Int) (w : World) (h : IsAr w a b ws c) (hl : ws.length ≤ 1048576) (hx : ws[k]? = some x) :
    Calls Try.prog 25 #[arP a, .int .i64 k] w fun e w' => e = .returned (.tuple #[.int .u64 x, .int .i64 0]) ∧ Turns a b ws (addC c 1) w w' := by
  have HT := Lib.hid (turns_count h (addC c 1))
  have hk : k < ws.length := (List.getElem?_eq_some_iff.1 hx).1
  have hh : hasB ws.length k 1 = true := (hasB_iff ..).2 ⟨by omega, by omega, by omega⟩
  have hW := h.word k x hx
  have hn := h.ne
  obtain ⟨c0, c1, f1⟩ := h.cells
  have H := has_any a b ws c k 1 w h hl (by omega)
  have HH := Lib.hid H
  clear H hx h
  generalize ws.length = len at *
  go_enter Try.func25, Try.ntmps25
  go_wp2_with fail
  refine HH.out.mono ?_
  rintro e w' ⟨rfl, rfl⟩
  go_wp2
  go_ret2
  exact ⟨rfl, HT.out⟩

theorem set_u64s (ws : List Int) (k : Nat) (x : Int) : (u64s ws).setIfInBounds k (.int .u64 x) = u64s (ws.set k x) := by
  simp [u64s, List.map_set]

theorem turns_store {w : World} {a b : Nat} {ws : List Int} {c : Int} (h : IsAr w a b ws c) (d : Int) (k : Nat) (x : Int) :
    Turns a b (ws.set k x) d w ((w.setCell ⟨a, 1, none⟩ (.int .i64 d)).setCell ⟨b, k, none⟩ (.int .u64 x)) := by
  have h1 := isAr_count h d
  refine ⟨⟨?_, ?_⟩, ((Frm.refl _ w).setCell (p := ⟨a, 1, none⟩) (fun _ => .inl rfl) _).setCell (p := ⟨b, k, none⟩) (fun _ => .inr rfl) _, by simp [World.setCell]⟩
  · have h2 := h1.1.far (p := ⟨b, k, none⟩) h.ne (.int .u64 x)
    rw [List.length_set]
    exact h2
  · have h2 := h1.2.set_ k (.int .u64 x)
    rw [set_u64s] at h2
    exact h2

set_option maxHeartbeats 1000000 in
theorem store_nil (at_ x : Int) (w : World) :
    Calls Try.prog 23 #[.pointer none, .int .i64 at_, .int .u64 x] w fun e w' => e = .returned (.int .i64 2) ∧ w = w' := by
  go_enter Try.func23, Try.ntmps23
  go_wp2_with fail
  refine (has_nil _ _ _).mono ?_
  rintro e w' ⟨rfl, rfl⟩
  go_wp2
  go_ret
  exact ⟨rfl, rfl⟩

set_option maxHeartbeats 1000000 in
theorem store_no (a b : Nat) (ws : List Int) (c at_ x : Int) (w : World) (h : IsAr w a b ws c) (hl : ws.length ≤ 1048576) (a1 : at_ ≤ 9223372036854775807) (hh : hasB ws.length at_ 1 = false) :
    Calls Try.prog 23 #[arP a, .int .i64 at_, .int .u64 x] w fun e w' => e = .returned (.int .i64 2) ∧ w = w' := by
  go_enter Try.func23, Try.ntmps23
  go_wp2_with fail
  refine (has_any a b ws c _ _ _ h hl a1).mono ?_
  rintro e w' ⟨rfl, rfl⟩
  go_wp2
  go_ret
  exact ⟨rfl, rfl⟩

set_option maxHeartbeats 1000000 in
theorem store_yes (a b : Nat) (ws : List Int) (c : Int) (k : Nat) (x : Int) (w : World) (h : IsAr w a b ws c) (hl : ws.length ≤ 1048576) (hk : k < ws.length) :
    Calls Try.prog 23 #[arP a, .int .i64 k, .int .u64 x] w fun e w' => e = .returned (.int .i64 0) ∧ Turns a b (ws.set k x) (addC c 1) w w' := by
  have HT := Lib.hid (turns_store h (addC c 1) k x)
  have hh : hasB ws.length k 1 = true := (hasB_iff ..).2 ⟨by omega, by omega, by omega⟩
  have hW := h.word k _ (List.getElem?_eq_getElem hk)
  have hF := h.2.frozen k
  have hn := h.ne
  obtain ⟨c0, c1, f1⟩ := h.cells
  have H := has_any a b ws c k 1 w h hl (by omega)
  have HH := Lib.hid H
  clear H h
  generalize ws[k] = y at *
  generalize ws.length = len at *
  go_enter Try.func23, Try.ntmps23
  go_wp2_with fail
  refine HH.out.mono ?_
  rintro e w' ⟨rfl, rfl⟩
  go_wp2
  go_ret
  exact ⟨rfl, HT.out⟩
end Go.Proofs.Ythhbamllnacklaa

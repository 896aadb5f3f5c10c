/- Objects in an arena: what a call of package obj may turn; contracts of its small functions. -/
import Derived.Test.YthhbamllnacklaaArenaV
import Derived.Test.YthhbamllnacklaaHeadV
namespace Go.Proofs.Ythhbamllnacklaa
open Go.RowKit

/-- Block a is an arena whose words ws lie in block b. -/
def Has (w : World) (a b : Nat) (ws : List Int) : Prop := ∃ c, IsAr w a b ws c

/-- Of what was there only the arena has turned: its words are ws now. -/
structure Now (a b : Nat) (ws : List Int) (w w' : World) : Prop where
  is : Has w' a b ws
  frm : Frm (fun k => k = a ∨ k = b) w w'

section
variable {w w' w'' : World} {a b : Nat} {ws vs : List Int} {c : Int}
theorem Turns.now (t : Turns a b ws c w w') : Now a b ws w w' := ⟨⟨c, t.is⟩, t.frm⟩
theorem Has.keep (h : Has w a b ws) (f : Below w.heap.size w w') : Has w' a b ws := ⟨h.choose, h.choose_spec.keep f⟩
theorem Has.alloc (h : Has w a b ws) (o : Obj) : Has (w.alloc o) a b ws := ⟨h.choose, h.choose_spec.alloc o⟩
theorem Has.now (h : Has w a b ws) (f : Below w.heap.size w w') : Now a b ws w w' := ⟨h.keep f, Frm.of_below f⟩
theorem Has.stay (h : Has w a b ws) : Now a b ws w w := ⟨h, Frm.refl _ _⟩
theorem Now.trans (h : Now a b ws w w') (k : Now a b vs w' w'') : Now a b vs w w'' := ⟨k.is, h.frm.trans k.frm fun _ _ e => e⟩
theorem Now.pre (f : Below w.heap.size w w') (k : Now a b ws w' w'') : Now a b ws w w'' := ⟨k.is, (Frm.of_below f).trans k.frm fun _ _ e => e⟩
theorem Now.post (k : Now a b ws w w') (f : Below w'.heap.size w' w'') : Now a b ws w w'' := ⟨k.is.keep f, k.frm.trans (S' := fun _ => False) (Frm.of_below f) fun _ _ e => e.elim⟩
theorem Now.pre_alloc {o : Obj} (k : Now a b ws (w.alloc o) w'') : Now a b ws w w'' := k.pre ((Below.refl _ w).alloc (Nat.le_refl _) o)
end

def plB (at_ : Int) : Bool := decide (0 ≤ at_) && decide (at_ ≤ 1048576)
def fdB (n : Int) : Bool := decide (0 ≤ n) && decide (n < 64)

theorem plB_yes {x : Int} (h0 : 0 ≤ x) (h1 : x ≤ 1048576) : plB x = true := by simp [plB, h0, h1]
theorem plB_no {x : Int} (h : x < 0 ∨ 1048576 < x) : plB x = false := by
  rw [plB, Bool.and_eq_false_iff, decide_eq_false_iff_not, decide_eq_false_iff_not]; omega
theorem fdB_yes {x : Int} (h0 : 0 ≤ x) (h1 : x < 64) : fdB x = true := by simp [fdB, h0, h1]
theorem fdB_no {x : Int} (h : x < 0 ∨ 64 ≤ x) : fdB x = false := by
  rw [fdB, Bool.and_eq_false_iff, decide_eq_false_iff_not, decide_eq_false_iff_not]; omega

theorem ret_bool {p q : Bool} (h : p = q) : Ending.returned (.bool p) = .returned (.bool q) := by rw [h]

set_option maxHeartbeats 400000 in
theorem isPlace_any (x : Int) (w : World) : Calls Try.prog 27 #[.int .i64 x] w fun e w' => e = .returned (.bool (plB x)) ∧ w = w' := by
  unfold plB
  by_cases h0 : 0 ≤ x
  · have e0 : decide (0 ≤ x) = true := decide_eq_true h0
    rw [e0]
    go_enter Try.func27, Try.ntmps27
    go_wp2
    go_ret
    exact ⟨ret_bool (by simp), rfl⟩
  · have e0 : decide (0 ≤ x) = false := decide_eq_false h0
    rw [e0]
    go_enter Try.func27, Try.ntmps27
    go_wp2
    go_ret
    exact ⟨rfl, rfl⟩

set_option maxHeartbeats 400000 in
theorem isField_any (x : Int) (w : World) : Calls Try.prog 33 #[.int .i64 x] w fun e w' => e = .returned (.bool (fdB x)) ∧ w = w' := by
  unfold fdB
  by_cases h0 : 0 ≤ x
  · have e0 : decide (0 ≤ x) = true := decide_eq_true h0
    rw [e0]
    go_enter Try.func33, Try.ntmps33
    go_wp2
    go_ret
    exact ⟨ret_bool (by simp), rfl⟩
  · have e0 : decide (0 ≤ x) = false := decide_eq_false h0
    rw [e0]
    go_enter Try.func33, Try.ntmps33
    go_wp2
    go_ret
    exact ⟨rfl, rfl⟩

set_option maxHeartbeats 400000 in
theorem oWords_any (s p a y : Int) (g n o : Bool) (w : World) (h0 : 0 ≤ s) (h1 : s ≤ 64) :
    Calls Try.prog 17 #[hdV s p a y g n o] w fun e w' => e = .returned (.int .i64 (s + 2)) ∧ Below w.heap.size w w' := by
  go_enter Try.func17, Try.ntmps17
  go_wp2
  go_ret
  exact ⟨rfl, (Below.refl _ _).alloc (Nat.le_refl _) _⟩

/-- The n-th word of the object at a place is there. -/
def InW (len : Nat) (at_ n : Int) : Prop := 0 ≤ at_ ∧ at_ + n < len

theorem wrap_add {x n : Int} (h0 : 0 ≤ x) (h1 : x ≤ 1048576) (n0 : 0 ≤ n) (n1 : n ≤ 65) : IntKind.i64.wrap (x + n) = x + n := IntWalk.i64_in _ (by omega)

set_option maxHeartbeats 1000000 in
theorem oLoad_yes (a b : Nat) (ws : List Int) (w : World) (h : Has w a b ws) (hl : ws.length ≤ 1048576) (at_ n x : Int) (n0 : 0 ≤ n) (n1 : n ≤ 65) (hi : InW ws.length at_ n) (hx : ws[(at_ + n).toNat]? = some x) :
    Calls Try.prog 31 #[arP a, .int .i64 at_, .int .i64 n] w fun e w' => e = .returned (.tuple #[.int .u64 x, .int .i64 0]) ∧ Now a b ws w w' := by
  obtain ⟨h0, h1⟩ := hi
  have HX := Lib.hid hx
  have HH := Lib.hid h
  have HL := Lib.hid hl
  have P1 := Lib.hid (plB_yes (x := at_) h0 (by omega))
  have p1 : at_ ≤ 1048576 := by omega
  clear hx h hl h1
  go_enter Try.func31, Try.ntmps31
  go_wp2_with fail
  refine (isPlace_any _ _).mono ?_
  rintro e w1 ⟨he, rfl⟩
  obtain rfl : e = .returned (.bool true) := he.trans (ret_bool P1.out)
  go_wp2_with fail
  obtain ⟨c, hc⟩ := HH.out
  refine (load_at _ _ _ _ _ hc HL.out (at_ + n) x (by omega) HX.out).mono ?_
  rintro e w1 ⟨rfl, t⟩
  clear hc
  go_wp2
  go_ret2
  exact ⟨rfl, t.now⟩

set_option maxHeartbeats 1000000 in
theorem oLoad_no (a b : Nat) (ws : List Int) (w : World) (h : Has w a b ws) (hl : ws.length ≤ 1048576) (at_ n : Int) (n0 : 0 ≤ n) (n1 : n ≤ 65) (hi : ¬ InW ws.length at_ n) :
    Calls Try.prog 31 #[arP a, .int .i64 at_, .int .i64 n] w fun e w' => e = .returned (.tuple #[.int .u64 0, .int .i64 2]) ∧ w = w' := by
  unfold InW at hi
  have HI := Lib.hid hi
  have HH := Lib.hid h
  have HL := Lib.hid hl
  clear h hl hi
  cases P1 : plB at_
  · have P1 := Lib.hid P1
    go_enter Try.func31, Try.ntmps31
    go_wp2_with fail
    refine (isPlace_any _ _).mono ?_
    rintro e w1 ⟨he, rfl⟩
    obtain rfl : e = .returned (.bool false) := he.trans (ret_bool P1.out)
    go_wp2
    go_ret2
    exact ⟨rfl, rfl⟩
  · have h0 : 0 ≤ at_ ∧ at_ ≤ 1048576 := by simpa [plB] using P1
    have P1 := Lib.hid P1
    obtain ⟨h0, h1⟩ := h0
    go_enter Try.func31, Try.ntmps31
    go_wp2_with fail
    refine (isPlace_any _ _).mono ?_
    rintro e w1 ⟨he, rfl⟩
    obtain rfl : e = .returned (.bool true) := he.trans (ret_bool P1.out)
    go_wp2_with fail
    obtain ⟨c, hc⟩ := HH.out
    refine (load_no _ _ _ _ (at_ + n) _ hc HL.out (by omega) ((hasB_no ..).2 (by have := HI.out; omega))).mono ?_
    rintro e w1 ⟨rfl, rfl⟩
    clear hc
    go_wp2
    go_ret2
    exact ⟨rfl, rfl⟩

set_option maxHeartbeats 1000000 in
theorem oStore_yes (a b : Nat) (ws : List Int) (w : World) (h : Has w a b ws) (hl : ws.length ≤ 1048576) (at_ n x : Int) (n0 : 0 ≤ n) (n1 : n ≤ 65) (hi : InW ws.length at_ n) :
    Calls Try.prog 34 #[arP a, .int .i64 at_, .int .i64 n, .int .u64 x] w fun e w' => e = .returned (.int .i64 0) ∧ Now a b (ws.set (at_ + n).toNat x) w w' := by
  obtain ⟨h0, h1⟩ := hi
  have HH := Lib.hid h
  have HL := Lib.hid hl
  have HI := Lib.hid h1
  have P1 := Lib.hid (plB_yes (x := at_) h0 (by omega))
  have p1 : at_ ≤ 1048576 := by omega
  clear h hl h1
  go_enter Try.func34, Try.ntmps34
  go_wp2_with fail
  refine (isPlace_any _ _).mono ?_
  rintro e w1 ⟨he, rfl⟩
  obtain rfl : e = .returned (.bool true) := he.trans (ret_bool P1.out)
  go_wp2_with fail
  obtain ⟨c, hc⟩ := HH.out
  refine (store_at _ _ _ _ _ hc HL.out (at_ + n) x (by omega) (by have := HI.out; omega)).mono ?_
  rintro e w1 ⟨rfl, t⟩
  clear hc
  go_wp2
  go_ret
  exact ⟨rfl, t.now⟩

set_option maxHeartbeats 1000000 in
theorem oStore_no (a b : Nat) (ws : List Int) (w : World) (h : Has w a b ws) (hl : ws.length ≤ 1048576) (at_ n x : Int) (n0 : 0 ≤ n) (n1 : n ≤ 65) (hi : ¬ InW ws.length at_ n) :
    Calls Try.prog 34 #[arP a, .int .i64 at_, .int .i64 n, .int .u64 x] w fun e w' => e = .returned (.int .i64 2) ∧ w = w' := by
  unfold InW at hi
  have HI := Lib.hid hi
  have HH := Lib.hid h
  have HL := Lib.hid hl
  clear h hl hi
  cases P1 : plB at_
  · have P1 := Lib.hid P1
    go_enter Try.func34, Try.ntmps34
    go_wp2_with fail
    refine (isPlace_any _ _).mono ?_
    rintro e w1 ⟨he, rfl⟩
    obtain rfl : e = .returned (.bool false) := he.trans (ret_bool P1.out)
    go_wp2
    go_ret
    exact ⟨rfl, rfl⟩
  · have h0 : 0 ≤ at_ ∧ at_ ≤ 1048576 := by simpa [plB] using P1
    have P1 := Lib.hid P1
    obtain ⟨h0, h1⟩ := h0
    go_enter Try.func34, Try.ntmps34
    go_wp2_with fail
    refine (isPlace_any _ _).mono ?_
    rintro e w1 ⟨he, rfl⟩
    obtain rfl : e = .returned (.bool true) := he.trans (ret_bool P1.out)
    go_wp2_with fail
    obtain ⟨c, hc⟩ := HH.out
    refine (store_no _ _ _ _ (at_ + n) x _ hc HL.out (by omega) ((hasB_no ..).2 (by have := HI.out; omega))).mono ?_
    rintro e w1 ⟨rfl, rfl⟩
    clear hc
    go_wp2
    go_ret
    exact ⟨rfl, rfl⟩
end Go.Proofs.Ythhbamllnacklaa

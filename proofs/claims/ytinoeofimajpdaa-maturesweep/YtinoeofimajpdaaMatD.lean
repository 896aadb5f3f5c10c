/- Contracts of the program's row and roomy. -/
import Derived.Test.YtinoeofimajpdaaMatB
namespace Go.Proofs.Ytinoeofimajpdaa
open Go.RowKit

/-- The first of C free pages, side by side. -/
def RowA (pgs : List Pg) (C : Nat) (u : Value) : Prop :=
  (∃ p : Nat, p + C ≤ pgs.length ∧ Run pgs p C ∧ (∀ q : Nat, q < p → ¬ Run pgs q C) ∧ u = yesV p) ∨ ((∀ q : Nat, q + C ≤ pgs.length → ¬ Run pgs q C) ∧ u = noV)

def RowR (pgs : List Pg) (C : Nat) (w : World) (e : Ending) (w' : World) : Prop := ∃ u, e = .returned u ∧ RowA pgs C u ∧ Below w.heap.size w w'

/-- What is known at page k: m pages before it are free, not m + 1; and none of the first k pages begin C free ones that end there. -/
def RowI (pgs : List Pg) (C k m : Nat) : Prop := m ≤ k ∧ m < C ∧ Run pgs (k - m) m ∧ (m < k → pgs[k - m - 1]? ≠ some .free) ∧ ∀ q : Nat, q + C ≤ k → ¬ Run pgs q C

theorem RowI.start {pgs : List Pg} {C : Nat} (h : 1 ≤ C) : RowI pgs C 0 0 := ⟨Nat.le_refl _, h, fun i h1 h2 => by omega, fun h => by omega, fun q hq => by omega⟩

theorem RowI.other {pgs : List Pg} {C k m : Nat} {x : Pg} (h : RowI pgs C k m) (hx : pgs[k]? = some x) (hn : x.isFree = false) : RowI pgs C (k + 1) 0 := by
  have nf : pgs[k]? ≠ some .free := fun e => by rw [hx] at e; cases e; cases hn
  have h1 := h.2.1
  refine ⟨Nat.zero_le _, by omega, fun i h1 h2 => by omega, fun _ => ?_, fun q hq hr => ?_⟩
  · rw [show k + 1 - 0 - 1 = k by omega]
    exact nf
  · by_cases e : q + C ≤ k
    · exact h.2.2.2.2 q e hr
    · exact nf (hr k (by omega) (by omega))

theorem RowI.run {pgs : List Pg} {C k m : Nat} (h : RowI pgs C k m) (hx : pgs[k]? = some .free) : Run pgs (k - m) (m + 1) := fun i h1 h2 => by
  by_cases e : i = k
  · subst e; exact hx
  · have := h.1
    exact h.2.2.1 i h1 (by omega)

theorem RowI.more {pgs : List Pg} {C k m : Nat} (h : RowI pgs C k m) (hx : pgs[k]? = some .free) (hC : m + 1 ≠ C) : RowI pgs C (k + 1) (m + 1) := by
  obtain ⟨h0, h1, h2, h3, h4⟩ := h
  have hr := RowI.run ⟨h0, h1, h2, h3, h4⟩ hx
  refine ⟨by omega, by omega, ?_, fun hlt => ?_, fun q hq hr => ?_⟩
  · rw [show k + 1 - (m + 1) = k - m by omega]
    exact hr
  · rw [show k + 1 - (m + 1) - 1 = k - m - 1 by omega]
    exact h3 (by omega)
  · by_cases e : q + C ≤ k
    · exact h4 q e hr
    · exact h3 (by omega) (hr (k - m - 1) (by omega) (by omega))

theorem RowI.found {pgs : List Pg} {C k m : Nat} (h : RowI pgs C k m) (hx : pgs[k]? = some .free) (hC : m + 1 = C) : RowA pgs C (yesV ((k : Int) - C + 1)) := by
  have hk := (List.getElem?_eq_some_iff.1 hx).1
  have hr := h.run hx
  have h0 := h.1
  refine Or.inl ⟨k - m, by omega, by rw [← hC]; exact hr, fun q hq => h.2.2.2.2 q (by omega), ?_⟩
  congr 1
  omega

theorem isFree_iff {x : Pg} (h : x.kind = 0) : x = .free := by cases x <;> simp_all [Pg.kind]

theorem isFree_not {x : Pg} (h : ¬ x.kind = 0) : x.isFree = false := by cases x <;> simp_all [Pg.kind, Pg.isFree]

set_option maxHeartbeats 4000000 in
theorem row_any (b pb : Nat) (ub : Nat → Nat) (F G : Int) (pgs : List Pg) (ps : List Bool) (C : Nat) (w : World) (h : IsSp w b pb ub F G pgs ps) (hC : 1 ≤ C) (hm : (C : Int) ≤ 9223372036854775807) :
    Calls Try.prog 47 #[spP b, .int .i64 C] w (RowR pgs C w) := by
  have few := h.p1
  rw [← h.len] at few
  obtain ⟨c0, c1, c2, cf⟩ := h.sp.three
  have HH := Lib.hid h
  obtain ⟨N, hN⟩ : ∃ N, pgs.length = N := ⟨_, rfl⟩
  rw [hN] at few c2
  have HN := Lib.hid hN
  clear h hN c0 c1
  unfold spP
  go_enter Try.func47, Try.ntmps47
  go_wp2_with fail
  clear c2 cf
  go_loopw [6, 14] (fun s s14 wr => ∃ (k m : Nat), k ≤ N ∧ s14 = .int .i64 k ∧ s = .int .i64 m ∧ m ≤ k ∧ Hid (RowI pgs C k m) ∧ Below w.heap.size w wr) (fun _ s14 _ => N - (intOf s14).toNat)
  case atStart => exact ⟨0, 0, Nat.zero_le _, rfl, rfl, Nat.le_refl _, Lib.hid (RowI.start hC), Below.refl _ _⟩
  case round =>
    obtain ⟨k, m, hk, rfl, rfl, mk, HR, bb⟩ := hrel
    by_cases hlt : k < N
    · obtain ⟨x, hx⟩ : ∃ x, pgs[k]? = some x := ⟨_, List.getElem?_eq_getElem (by have := HN.out; omega)⟩
      obtain ⟨p, hp, d0, d1, d2, d3, df⟩ := (HH.out.keep bb).at_ hx
      have HX := Lib.hid hx
      clear hx hp
      by_cases fk : x.kind = 0
      · rw [fk] at d0
        have hf := HX.out
        rw [isFree_iff fk] at hf
        have HF := Lib.hid hf
        clear hf
        by_cases e : m + 1 = C
        · have R := Lib.hid (HR.out.found HF.out e)
          have e1 : (m : Int) + 1 = (C : Int) := by omega
          have E1 := Lib.hid e1
          have e2 : ((m : Int) + 1 == (C : Int)) = true := by simpa using e1
          clear e e1
          go_wp2
          go_ret2
          exact ⟨_, rfl, R.out, bb.alloc bb.size _⟩
        · have R := Lib.hid (HR.out.more HF.out e)
          have e2 : ((m : Int) + 1 == (C : Int)) = false := by
            have : ¬ ((m : Int) + 1 = (C : Int)) := by omega
            simpa using this
          go_wp2
          go_roundw
          case rel => exact ⟨k + 1, m + 1, by omega, by go_num, by go_num, by omega, R, bb.alloc bb.size _⟩
          case measure => simp [intOf]; omega
      · have R := Lib.hid (HR.out.other HX.out (isFree_not fk))
        have fk1 : (x.kind == 0) = false := by simpa using fk
        have fk2 : (x.kind != 0) = true := by simpa using fk
        go_wp2
        go_roundw
        case rel => exact ⟨k + 1, 0, by omega, by go_num, rfl, by omega, R, bb.alloc bb.size _⟩
        case measure => simp [intOf]; omega
    · obtain rfl : k = N := by omega
      have R := Lib.hid (show RowA pgs C noV from Or.inr ⟨fun q hq => HR.out.2.2.2.2 q (by rw [← HN.out]; exact hq), rfl⟩)
      go_wp2
      go_ret2
      exact ⟨_, rfl, R.out, bb⟩

/-- The first block of a size in which a cell may be taken. -/
def RoomyA (pgs : List Pg) (ps : List Bool) (s : Int) (u : Value) : Prop := (∃ p : Nat, Room pgs ps s p ∧ (∀ q : Nat, q < p → ¬ Room pgs ps s q) ∧ u = yesV p) ∨ ((∀ q : Nat, ¬ Room pgs ps s q) ∧ u = noV)

def RoomyR (pgs : List Pg) (ps : List Bool) (s : Int) (w : World) (e : Ending) (w' : World) : Prop := ∃ u, e = .returned u ∧ RoomyA pgs ps s u ∧ Below w.heap.size w w'

theorem room_next {pgs : List Pg} {ps : List Bool} {s : Int} {k : Nat} (h : ∀ q : Nat, q < k → ¬ Room pgs ps s q) (hn : ¬ Room pgs ps s k) : ∀ q : Nat, q < k + 1 → ¬ Room pgs ps s q := fun q hq => by
  by_cases e : q = k
  · subst e; exact hn
  · exact h q (by omega)

theorem kind_blk {x : Pg} (h : x.kind = 1) : ∃ s us, x = .blk s us := by
  cases x with
  | blk s us => exact ⟨s, us, rfl⟩
  | _ => cases h

set_option maxHeartbeats 4000000 in
theorem roomy_any (b pb : Nat) (ub : Nat → Nat) (F G : Int) (pgs : List Pg) (ps : List Bool) (s : Int) (w : World) (h : IsSp w b pb ub F G pgs ps) :
    Calls Try.prog 48 #[spP b, .int .i64 s] w (RoomyR pgs ps s w) := by
  have few := h.p1
  rw [← h.len] at few
  obtain ⟨c0, c1, c2, cf⟩ := h.sp.three
  have HH := Lib.hid h
  obtain ⟨N, hN⟩ : ∃ N, pgs.length = N := ⟨_, rfl⟩
  rw [hN] at few c2
  have HN := Lib.hid hN
  clear h hN c0 c1
  unfold spP
  go_enter Try.func48, Try.ntmps48
  go_wp2_with fail
  clear c2 cf
  go_loopw [13] (fun s13 wr => ∃ (k : Nat), k ≤ N ∧ s13 = .int .i64 k ∧ Hid (∀ q : Nat, q < k → ¬ Room pgs ps s q) ∧ Below w.heap.size w wr) (fun s13 _ => N - (intOf s13).toNat)
  case atStart => exact ⟨0, Nat.zero_le _, rfl, Lib.hid (fun q hq => by omega), Below.refl _ _⟩
  case round =>
    obtain ⟨k, hk, rfl, HR, bb⟩ := hrel
    by_cases hlt : k < N
    · obtain ⟨x, hx⟩ : ∃ x, pgs[k]? = some x := ⟨_, List.getElem?_eq_getElem (by have := HN.out; omega)⟩
      have hi := HH.out.keep bb
      obtain ⟨p, hp, d0, d1, d2, d3, df⟩ := hi.at_ hx
      have HX := Lib.hid hx
      have HP := Lib.hid hp
      clear hp
      have bN := Lib.hid (bb.alloc bb.size (.cells #[.int .i64 x.kind, .int .i64 (x.size G), .slice (x.adr (ub k)) x.flags.length x.flags.length, .bool p] 62))
      by_cases fk : x.kind = 1
      · obtain ⟨s', us, rfl⟩ := kind_blk fk
        have fl := (hi.fl k _ hx rfl).alloc (.cells #[.int .i64 1, .int .i64 s', .slice (some ⟨ub k, 0, none⟩) us.length us.length, .bool p] 62)
        have fz := (hi.small hx).2.2.2.2.1
        have HC := Lib.hid (contains_any (ub k) us false _ fl (by have : us.length ≤ 64 := fz; omega))
        have d0' : wr.cell? ⟨pb, k * 4, none⟩ = some (.int .i64 1) := d0
        have d1' : wr.cell? ⟨pb, k * 4 + 1, none⟩ = some (.int .i64 s') := d1
        have d2' : wr.cell? ⟨pb, k * 4 + 2, none⟩ = some (.slice (some ⟨ub k, 0, none⟩) us.length us.length) := d2
        clear hx hi d0 d1 d2 fl fz fk
        by_cases es : s' = s
        · subst es
          cases p with
          | true =>
            have R := Lib.hid (room_next HR.out (by rintro ⟨vs, e1, e2, e3⟩; rw [HP.out] at e2; cases e2))
            go_wp2
            go_roundw
            case rel => exact ⟨k + 1, by omega, by go_num, R, bN.out⟩
            case measure => simp [intOf]; omega
          | false =>
            cases hv : hasV us false
            · rw [hv] at HC
              have R := Lib.hid (room_next HR.out (by
                rintro ⟨vs, e1, e2, e3⟩
                rw [HX.out] at e1
                cases e1
                exact of_decide_eq_false hv e3))
              clear hv
              go_wp2_with fail
              refine HC.out.mono ?_
              rintro e w1 ⟨rfl, rfl⟩
              go_wp2
              go_roundw
              case rel => exact ⟨k + 1, by omega, by go_num, R, bN.out⟩
              case measure => simp [intOf]; omega
            · rw [hv] at HC
              have R := Lib.hid (show RoomyA pgs ps s' (yesV k) from Or.inl ⟨k, ⟨us, HX.out, HP.out, of_decide_eq_true hv⟩, HR.out, rfl⟩)
              clear hv
              go_wp2_with fail
              refine HC.out.mono ?_
              rintro e w1 ⟨rfl, rfl⟩
              go_wp2
              go_ret2
              exact ⟨_, rfl, R.out, bN.out⟩
        · have R := Lib.hid (room_next HR.out (by
            rintro ⟨vs, e1, e2, e3⟩
            rw [HX.out] at e1
            cases e1
            exact es rfl))
          have es1 : (s' == s) = false := by simpa using es
          go_wp2
          go_roundw
          case rel => exact ⟨k + 1, by omega, by go_num, R, bN.out⟩
          case measure => simp [intOf]; omega
      · have R := Lib.hid (room_next HR.out (by
          rintro ⟨vs, e1, e2, e3⟩
          rw [HX.out] at e1
          cases e1
          exact fk rfl))
        have fk1 : (x.kind == 1) = false := by simpa using fk
        clear hx hi
        go_wp2
        go_roundw
        case rel => exact ⟨k + 1, by omega, by go_num, R, bN.out⟩
        case measure => simp [intOf]; omega
    · obtain rfl : k = N := by omega
      have R := Lib.hid (show RoomyA pgs ps s noV from Or.inr ⟨fun q hr => by
        by_cases hq : q < k
        · exact HR.out q hq hr
        · obtain ⟨us, e1, _⟩ := hr
          have := (List.getElem?_eq_some_iff.1 e1).1
          have := HN.out
          omega, rfl⟩)
      go_wp2
      go_ret2
      exact ⟨_, rfl, R.out, bb⟩
end Go.Proofs.Ytinoeofimajpdaa

/- Contracts of the program's Free, Pending, Page. -/
import Derived.Test.YtinoeofimajpdaaMatB
namespace Go.Proofs.Ytinoeofimajpdaa
open Go.RowKit

theorem kind_free (x : Pg) : (x.kind = 0) = (x.isFree = true) := by cases x <;> simp [Pg.kind, Pg.isFree]

set_option maxHeartbeats 4000000 in
theorem mFree_any (b pb : Nat) (ub : Nat → Nat) (F G : Int) (pgs : List Pg) (ps : List Bool) (w : World) (h : IsSp w b pb ub F G pgs ps) :
    Calls Try.prog 22 #[spP b] w fun e w' => e = .returned (.int .i64 (pgs.countP Pg.isFree : Nat)) ∧ Below w.heap.size w w' := by
  have few := h.p1
  rw [← h.len] at few
  have HH := Lib.hid h
  have HA := Lib.hid (all_any b F G pb pgs.length w h.sp)
  obtain ⟨N, hN⟩ : ∃ N, pgs.length = N := ⟨_, rfl⟩
  rw [hN] at HA few
  have HN := Lib.hid hN
  clear h hN
  unfold spP at HA ⊢
  go_enter Try.func22, Try.ntmps22
  go_wp2_with fail
  refine HA.out.mono ?_
  rintro e w1 ⟨rfl, rfl⟩
  go_wp2_with fail
  go_loopw [3, 9] (fun s s9 wr => ∃ (k : Nat) (q : Int), k ≤ N ∧ s9 = .int .i64 k ∧ s = .int .i64 q ∧ Hid (q = ((pgs.take k).countP Pg.isFree : Nat)) ∧ 0 ≤ q ∧ q ≤ k ∧ Below w.heap.size w wr) (fun _ s9 _ => N - (intOf s9).toNat)
  case atStart => exact ⟨0, 0, Nat.zero_le _, rfl, rfl, Lib.hid rfl, by omega, by omega, Below.refl _ _⟩
  case round =>
    obtain ⟨k, q, hk, rfl, rfl, HQ, q0, q1, bb⟩ := hrel
    have hi := HH.out.keep bb
    by_cases hlt : k < N
    · obtain ⟨x, hx⟩ : ∃ x, pgs[k]? = some x := ⟨_, List.getElem?_eq_getElem (by have := HN.out; omega)⟩
      obtain ⟨p, hp, d0, d1, d2, d3, df⟩ := hi.at_ hx
      have HS := Lib.hid (show ((pgs.take (k + 1)).countP Pg.isFree : Nat) = (pgs.take k).countP Pg.isFree + (if x.isFree then 1 else 0) from by rw [take_snoc hx, List.countP_append, List.countP_singleton])
      have HK := Lib.hid (kind_free x)
      clear hx hi hp
      by_cases fk : x.kind = 0
      · rw [fk] at d0
        have fb := HK.out ▸ fk
        go_wp2
        go_roundw
        case rel => exact ⟨k + 1, q + 1, by omega, by go_num, by go_num, Lib.hid (by rw [HS.out, HQ.out, fb]; simp), by omega, by omega, bb.alloc bb.size _⟩
        case measure => simp [intOf]; omega
      · have fk1 : (x.kind == 0) = false := by simpa using fk
        go_wp2
        go_roundw
        case rel => exact ⟨k + 1, q, by omega, by go_num, by go_num, Lib.hid (by rw [HS.out, HQ.out]; simp [← HK.out, fk]), by omega, by omega, bb.alloc bb.size _⟩
        case measure => simp [intOf]; omega
    · obtain rfl : k = N := by omega
      have E := Lib.hid (show ((pgs.countP Pg.isFree : Nat) : Int) = q from by rw [HQ.out, ← HN.out, List.take_length])
      go_wp2
      go_ret
      exact ⟨by rw [E.out]; rfl, bb⟩
end Go.Proofs.Ytinoeofimajpdaa

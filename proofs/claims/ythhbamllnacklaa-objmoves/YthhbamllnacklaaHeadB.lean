/- Contract of Pack: what is no head is refused; what is one is its word, a sum of powers of two. -/
import Derived.Test.YthhbamllnacklaaHeadA
import Derived.Test.YthhbamllnacklaaBits
namespace Go.Proofs.Ythhbamllnacklaa
open Go.RowKit

set_option maxHeartbeats 1000000 in
theorem pack_no (s p a y : Int) (g n o : Bool) (w : World) (h : goodB s p a y = false) :
    Calls Try.prog 26 #[hdV s p a y g n o] w fun e w' => e = .returned (.tuple #[.int .u64 0, .bool false]) ∧ Below w.heap.size w w' := by
  go_enter Try.func26, Try.ntmps26
  go_wp2_with fail
  refine (good_any s p a y g n o _).mono ?_
  rintro e w' ⟨rfl, hg⟩
  go_wp2
  go_ret2
  exact ⟨rfl, below_alloc_trans _ hg⟩

/-- A head's word. -/
def wordI (s p a y : Int) (g n o : Bool) : Int :=
  17592186044416 + s + 65536 * p + 4294967296 * a + 1099511627776 * y + flagI g 2199023255552 + flagI n 4398046511104 + flagI o 8796093022208

theorem flagI_mul (b : Bool) (n : Int) : ∃ B : Int, 0 ≤ B ∧ B ≤ 1 ∧ flagI b n = n * B := by
  cases b
  · exact ⟨0, by omega, by omega, by simp [flagI]⟩
  · exact ⟨1, by omega, by omega, by simp [flagI]⟩

theorem flags_or (L Y G N O : Int) (h0 : 0 ≤ L) (h1 : L < 1099511627776) (y0 : 0 ≤ Y) (y1 : Y ≤ 1) (g0 : 0 ≤ G) (g1 : G ≤ 1) (n0 : 0 ≤ N) (n1 : N ≤ 1) (o0 : 0 ≤ O) (o1 : O ≤ 1) :
    bits .or .u64 (bits .or .u64 (bits .or .u64 (bits .or .u64 (bits .or .u64 L 17592186044416) (1099511627776 * Y)) (2199023255552 * G)) (4398046511104 * N)) (8796093022208 * O) =
      17592186044416 + L + 1099511627776 * Y + 2199023255552 * G + 4398046511104 * N + 8796093022208 * O := by
  have e3 : bits .or .u64 L (17592186044416 * 1) = L + 17592186044416 * 1 := or_bit1 44 17592186044416 (by simp) L 1 (by omega) (by omega) (by omega) (by omega) (by omega) (by omega)
  rw [Int.mul_one] at e3
  rw [e3, or_bit1 40 1099511627776 (by simp) _ Y (by omega) (by omega) (by omega) y0 y1 (by omega),
    or_bit1 41 2199023255552 (by simp) _ G (by omega) (by omega) (by omega) g0 g1 (by omega),
    or_bit1 42 4398046511104 (by simp) _ N (by omega) (by omega) (by omega) n0 n1 (by omega),
    or_bit1 43 8796093022208 (by simp) _ O (by omega) (by omega) (by omega) o0 o1 (by omega)]
  omega

theorem packed (s p a y : Int) (g n o : Bool) (h : goodB s p a y = true) :
    bits .or .u64 (bits .or .u64 (bits .or .u64 (bits .or .u64 (bits .or .u64 (bits .or .u64 (bits .or .u64 s (p * 65536)) (a * 4294967296)) 17592186044416) (flagI (y == 1) 1099511627776)) (flagI g 2199023255552)) (flagI n 4398046511104)) (flagI o 8796093022208) = wordI s p a y g n o := by
  obtain ⟨s0, s1, p0, p1, a0, a1, y0, y1⟩ := (goodB_iff ..).1 h
  have ey : flagI (y == 1) 1099511627776 = 1099511627776 * y := by
    have : y = 0 ∨ y = 1 := by omega
    rcases this with rfl | rfl <;> rfl
  obtain ⟨G, G0, G1, eg⟩ := flagI_mul g 2199023255552
  obtain ⟨N, N0, N1, en⟩ := flagI_mul n 4398046511104
  obtain ⟨O, O0, O1, eo⟩ := flagI_mul o 8796093022208
  unfold wordI
  rw [ey, eg, en, eo]
  clear ey eg en eo h
  rw [or_lo 16 65536 (by simp) s p s0 (by omega) p0 (by omega) (by omega), or_lo 32 4294967296 (by simp) _ a (by omega) (by omega) a0 (by omega) (by omega),
    flags_or _ y G N O (by omega) (by omega) y0 y1 G0 G1 N0 N1 O0 O1]
  omega

theorem ret2_int {k : IntKind} {a b : Int} {v : Value} (h : a = b) : Ending.returned (.tuple #[.int k a, v]) = .returned (.tuple #[.int k b, v]) := by rw [h]

set_option maxHeartbeats 1000000 in
theorem pack_yes (s p a y : Int) (g n o : Bool) (w : World) (h : goodB s p a y = true) :
    Calls Try.prog 26 #[hdV s p a y g n o] w fun e w' => e = .returned (.tuple #[.int .u64 (wordI s p a y g n o), .bool true]) ∧ Below w.heap.size w w' := by
  have hp := packed s p a y g n o h
  obtain ⟨s0, s1, p0, p1, a0, a1, y0, y1⟩ := (goodB_iff ..).1 h
  generalize wordI s p a y g n o = W at *
  have HP := Lib.hid hp
  clear hp
  go_enter Try.func26, Try.ntmps26
  go_wp2_with fail
  refine (good_any s p a y g n o _).mono ?_
  rintro e w' ⟨rfl, hg⟩
  obtain ⟨hc, hf⟩ := kept_cells hg
  go_wp2_with (go_at_call 38; refine (flag_any _ _ _).mono ?_; rintro e w' ⟨rfl, rfl⟩)
  go_ret2
  exact ⟨ret2_int HP.out, below_alloc_trans _ hg⟩
end Go.Proofs.Ythhbamllnacklaa

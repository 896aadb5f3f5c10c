/- Contracts of split and Unpack: the numbers and flags of a word; a head just where packing them again is that word. -/
import Derived.Test.YthhbamllnacklaaHeadB
namespace Go.Proofs.Ythhbamllnacklaa
open Go.RowKit

def sS (x : Int) : Int := x % 65536
def sP (x : Int) : Int := x / 65536 % 65536
def sA (x : Int) : Int := x / 4294967296 % 256
def sY (x : Int) : Int := flagI (bitB 1099511627776 x) 1
def sG (x : Int) : Bool := bitB 2199023255552 x
def sN (x : Int) : Bool := bitB 4398046511104 x
def sO (x : Int) : Bool := bitB 8796093022208 x

theorem wrap64_in (n : Int) (h0 : 0 ≤ n) (h1 : n ≤ 65535) : wrap64 n = n := by
  unfold wrap64; omega

set_option maxHeartbeats 1000000 in
theorem split_any (x : Int) (h0 : 0 ≤ x) (h1 : x < 18446744073709551616) (w : World) :
    Calls Try.prog 39 #[.int .u64 x] w fun e w' => e = .returned (hdV (sS x) (sP x) (sA x) (sY x) (sG x) (sN x) (sO x)) ∧ Below w.heap.size w w' := by
  have b1 : bits .and .u64 x 65535 = sS x := and_mask 16 65535 65536 (by simp) (by simp) (by simp) x h0 h1
  have b2 : bits .and .u64 (x / 65536) 65535 = sP x := and_mask 16 65535 65536 (by simp) (by simp) (by simp) (x / 65536) (by omega) (by omega)
  have b3 : bits .and .u64 (x / 4294967296) 255 = sA x := and_mask 8 255 256 (by simp) (by simp) (by simp) (x / 4294967296) (by omega) (by omega)
  have b4 : (bits .and .u64 x 1099511627776 != 0) = bitB 1099511627776 x := and_bit 40 _ (by simp) (by simp) x h0 h1
  have b5 : (bits .and .u64 x 2199023255552 != 0) = sG x := and_bit 41 _ (by simp) (by simp) x h0 h1
  have b6 : (bits .and .u64 x 4398046511104 != 0) = sN x := and_bit 42 _ (by simp) (by simp) x h0 h1
  have b7 : (bits .and .u64 x 8796093022208 != 0) = sO x := and_bit 43 _ (by simp) (by simp) x h0 h1
  have c1 : 0 ≤ sS x ∧ sS x ≤ 65535 := by unfold sS; omega
  have c2 : 0 ≤ sP x ∧ sP x ≤ 65535 := by unfold sP; omega
  have c3 : 0 ≤ sA x ∧ sA x ≤ 65535 := by unfold sA; omega
  have w1 := wrap64_in (sS x) c1.1 c1.2
  have w2 := wrap64_in (sP x) c2.1 c2.2
  have w3 := wrap64_in (sA x) c3.1 c3.2
  clear c1 c2 c3
  cases by1 : bitB 1099511627776 x
  · have ey : sY x = 0 := by unfold sY; rw [by1]; rfl
    rw [ey]
    clear ey
    go_enter Try.func39, Try.ntmps39
    go_wp2
    exact bodyPost_ret (v := hdV (sS x) (sP x) (sA x) 0 (sG x) (sN x) (sO x)) (by simp [results, Try.results39, go_sem]) rfl ⟨rfl, ((Below.refl _ _).alloc (Nat.le_refl _) _).alloc (by simp) _⟩
  · have ey : sY x = 1 := by unfold sY; rw [by1]; rfl
    rw [ey]
    clear ey
    go_enter Try.func39, Try.ntmps39
    go_wp2
    exact bodyPost_ret (v := hdV (sS x) (sP x) (sA x) 1 (sG x) (sN x) (sO x)) (by simp [results, Try.results39, go_sem]) rfl ⟨rfl, ((Below.refl _ _).alloc (Nat.le_refl _) _).alloc (by simp) _⟩

/-- Is the word a head's? -/
def isHd (x : Int) : Bool := goodB (sS x) (sP x) (sA x) (sY x) && (wordI (sS x) (sP x) (sA x) (sY x) (sG x) (sN x) (sO x) == x)

/-- The head of a word, or the empty one. -/
abbrev unV (x : Int) : Value := hdV (sS x) (sP x) (sA x) (sY x) (sG x) (sN x) (sO x)
abbrev noV : Value := hdV 0 0 0 0 false false false

theorem below_set7 {w w' : World} {B : Nat} (h : Below B w w') (b : Nat) (hb : B ≤ b) (v0 v1 v2 v3 v4 v5 v6 : Value) :
    Below B w (((((((w'.setCell ⟨b, 0, none⟩ v0).setCell ⟨b, 1, none⟩ v1).setCell ⟨b, 2, none⟩ v2).setCell ⟨b, 3, none⟩ v3).setCell ⟨b, 4, none⟩ v4).setCell ⟨b, 5, none⟩ v5).setCell ⟨b, 6, none⟩ v6) :=
  ((((((h.setCell (p := ⟨b, 0, none⟩) hb v0).setCell (p := ⟨b, 1, none⟩) hb v1).setCell (p := ⟨b, 2, none⟩) hb v2).setCell (p := ⟨b, 3, none⟩) hb v3).setCell (p := ⟨b, 4, none⟩) hb v4).setCell (p := ⟨b, 5, none⟩) hb v5).setCell (p := ⟨b, 6, none⟩) hb v6

set_option maxHeartbeats 1000000 in
theorem unpack_no (x : Int) (h0 : 0 ≤ x) (h1 : x < 18446744073709551616) (w : World) (h : isHd x = false) :
    Calls Try.prog 32 #[.int .u64 x] w fun e w' => e = .returned (.tuple #[noV, .bool false]) ∧ Below w.heap.size w w' := by
  unfold isHd at h
  cases hg : goodB (sS x) (sP x) (sA x) (sY x)
  · clear h
    go_enter Try.func32, Try.ntmps32
    go_wp2_with fail
    refine (split_any x h0 h1 _).mono ?_
    rintro e w1 ⟨rfl, b1⟩
    have k1 := (Blk.new w _ _).keep b1
    go_wp2_with fail
    refine (pack_no _ _ _ _ _ _ _ _ hg).mono ?_
    rintro e w2 ⟨rfl, b2⟩
    obtain ⟨c0, c1, c2, c3, c4, c5, c6, fz⟩ := ((k1.alloc _).keep b2).seven
    go_wp2
    exact bodyPost_ret (v := .tuple #[noV, .bool false]) (by simp [results, Try.results32, go_sem, c0, c1, c2, c3, c4, c5, c6]) rfl ⟨rfl, below_set7 (below_trans (below_alloc_trans _ b1) (below_alloc_trans _ b2)) _ (Nat.le_refl _) _ _ _ _ _ _ _⟩
  · have hne : (wordI (sS x) (sP x) (sA x) (sY x) (sG x) (sN x) (sO x) != x) = true := by
      rw [hg] at h
      simpa using h
    clear h
    go_enter Try.func32, Try.ntmps32
    go_wp2_with fail
    refine (split_any x h0 h1 _).mono ?_
    rintro e w1 ⟨rfl, b1⟩
    have k1 := (Blk.new w _ _).keep b1
    go_wp2_with fail
    refine (pack_yes _ _ _ _ _ _ _ _ hg).mono ?_
    rintro e w2 ⟨rfl, b2⟩
    obtain ⟨c0, c1, c2, c3, c4, c5, c6, fz⟩ := ((k1.alloc _).keep b2).seven
    go_wp2
    exact bodyPost_ret (v := .tuple #[noV, .bool false]) (by simp [results, Try.results32, go_sem, c0, c1, c2, c3, c4, c5, c6]) rfl ⟨rfl, below_set7 (below_trans (below_alloc_trans _ b1) (below_alloc_trans _ b2)) _ (Nat.le_refl _) _ _ _ _ _ _ _⟩

set_option maxHeartbeats 1000000 in
theorem unpack_yes (x : Int) (h0 : 0 ≤ x) (h1 : x < 18446744073709551616) (w : World) (h : isHd x = true) :
    Calls Try.prog 32 #[.int .u64 x] w fun e w' => e = .returned (.tuple #[unV x, .bool true]) ∧ Below w.heap.size w w' := by
  simp only [isHd, Bool.and_eq_true] at h
  obtain ⟨hg, h⟩ := h
  have hne : (wordI (sS x) (sP x) (sA x) (sY x) (sG x) (sN x) (sO x) != x) = false := by simpa using h
  clear h
  go_enter Try.func32, Try.ntmps32
  go_wp2_with fail
  refine (split_any x h0 h1 _).mono ?_
  rintro e w1 ⟨rfl, b1⟩
  have k1 := (Blk.new w _ _).keep b1
  go_wp2_with fail
  refine (pack_yes _ _ _ _ _ _ _ _ hg).mono ?_
  rintro e w2 ⟨rfl, b2⟩
  obtain ⟨c0, c1, c2, c3, c4, c5, c6, fz⟩ := ((k1.alloc _).keep b2).seven
  obtain ⟨d0, d1, d2, d3, d4, d5, d6, gz⟩ := ((Blk.new w1 _ _).keep b2).seven
  go_wp2
  exact bodyPost_ret (v := .tuple #[unV x, .bool true]) (by simp [results, Try.results32, go_sem, c0, c1, c2, c3, c4, c5, c6]) rfl ⟨rfl, below_set7 (below_trans (below_alloc_trans _ b1) (below_alloc_trans _ b2)) _ (Nat.le_refl _) _ _ _ _ _ _ _⟩

/-- A head's word gives that head back. -/
theorem split_word (s p a y : Int) (g n o : Bool) (h : goodB s p a y = true) :
    sS (wordI s p a y g n o) = s ∧ sP (wordI s p a y g n o) = p ∧ sA (wordI s p a y g n o) = a ∧ sY (wordI s p a y g n o) = y ∧ sG (wordI s p a y g n o) = g ∧ sN (wordI s p a y g n o) = n ∧ sO (wordI s p a y g n o) = o := by
  obtain ⟨s0, s1, p0, p1, a0, a1, y0, y1⟩ := (goodB_iff ..).1 h
  clear h
  have hy : y = 0 ∨ y = 1 := by omega
  unfold sS sP sA sY sG sN sO bitB wordI
  rcases hy with rfl | rfl <;> cases g <;> cases n <;> cases o <;> simp only [flagI, if_true, if_false, Bool.false_eq_true, decide_eq_true_eq, decide_eq_false_iff_not] <;>
    refine ⟨by omega, by omega, by omega, ?_, by omega, by omega, by omega⟩ <;> first | (rw [if_neg (by omega)]) | (rw [if_pos (by omega)])

theorem word_bounds (s p a y : Int) (g n o : Bool) (h : goodB s p a y = true) : 17592186044416 ≤ wordI s p a y g n o ∧ wordI s p a y g n o < 35184372088832 := by
  obtain ⟨s0, s1, p0, p1, a0, a1, y0, y1⟩ := (goodB_iff ..).1 h
  clear h
  unfold wordI
  cases g <;> cases n <;> cases o <;> simp only [flagI, if_true, if_false, Bool.false_eq_true] <;> omega

theorem isHd_word (s p a y : Int) (g n o : Bool) (h : goodB s p a y = true) : isHd (wordI s p a y g n o) = true := by
  obtain ⟨e1, e2, e3, e4, e5, e6, e7⟩ := split_word s p a y g n o h
  unfold isHd
  rw [e1, e2, e3, e4, e5, e6, e7, h]
  simp

theorem isHd_iff (x : Int) : isHd x = true ↔ ∃ s p a y g n o, goodB s p a y = true ∧ wordI s p a y g n o = x := by
  constructor
  · intro h
    simp only [isHd, Bool.and_eq_true, beq_iff_eq] at h
    exact ⟨_, _, _, _, _, _, _, h.1, h.2⟩
  · rintro ⟨s, p, a, y, g, n, o, h, rfl⟩
    exact isHd_word s p a y g n o h
end Go.Proofs.Ythhbamllnacklaa

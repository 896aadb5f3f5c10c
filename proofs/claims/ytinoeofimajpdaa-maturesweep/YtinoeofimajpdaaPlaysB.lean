/- The fixed fact of layer 5 (awake). -/
import Derived.Test.YtinoeofimajpdaaMatI
namespace Go.Proofs.Ytinoeofimajpdaa
open Go.RowKit

def ag0 : List Pg := [.free, .free, .free, .free]
def ag1 : List Pg := [.blk 6 [true, false], .free, .free, .free]
def ag2 : List Pg := [.blk 6 [true, false], .big 2, .rest, .free]
def ag3 : List Pg := [.blk 6 [true, true], .big 2, .rest, .free]
def ag4 : List Pg := [.blk 6 [false, true], .big 2, .rest, .free]
def af : List Bool := [false, false, false, false]

theorem awk_t1 : TakeA 100 16 af ag0 5 (yesV 100) ag1 := by
  refine Or.inr (Or.inr ⟨by decide, by decide, Or.inr ⟨?_, Or.inl ⟨0, rfl, fun q hq => by omega, rfl, rfl⟩⟩⟩)
  rintro q ⟨us, h, _⟩
  match q, h with
  | 0, h => cases h
  | 1, h => cases h
  | 2, h => cases h
  | 3, h => cases h
  | k + 4, h => cases h

theorem awk_t2 : TakeA 100 16 af ag1 20 (yesV 116) ag2 := by
  refine Or.inr (Or.inl ⟨by decide, by decide, Or.inl ⟨1, by decide, ?_, ?_, rfl, rfl⟩⟩)
  · intro i h1 h2
    have h2 : i < 1 + 2 := h2
    match i, h1, h2 with
    | 1, _, _ => rfl
    | 2, _, _ => rfl
  · intro q hq hr
    obtain rfl : q = 0 := by omega
    have := hr 0 (Nat.le_refl _) (by decide)
    cases this

theorem awk_t3 : TakeA 100 16 af ag2 6 (yesV 106) ag3 := by
  refine Or.inr (Or.inr ⟨by decide, by decide, Or.inl ⟨0, 1, [true, false], rfl, rfl, rfl, fun i hi => ?_, fun q hq => by omega, rfl, rfl⟩⟩)
  obtain rfl : i = 0 := by omega
  intro h
  cases h

theorem awk_g1 : GiveA 100 16 af ag3 100 true ag4 af :=
  Or.inr (Or.inl ⟨0, 0, 6, [true, true], rfl, rfl, rfl, rfl, Or.inl ⟨by decide, rfl, rfl⟩⟩)

theorem awk_g2 : GiveA 100 16 af ag4 100 false ag4 af := Or.inl ⟨by decide, rfl, rfl, rfl⟩

theorem awk_size : sizeV (cellsP 100 16 ag3) 116 = .tuple #[.int .i64 32, .bool true] := by rfl
theorem awk_used : usedI (cellsP 100 16 ag3) = 44 := by decide
theorem awk_free : ag3.countP Pg.isFree = 1 := by decide
theorem awk_starts : startsP 100 16 ag3 0 200 = [100, 106, 116] := by decide

set_option maxHeartbeats 8000000 in
set_option maxRecDepth 100000 in
theorem awake5_any (M : MatSpec) (w : World) :
    Calls Try.prog 19 #[] w fun e w' => e = .returned (.bool true) ∧ Below w.heap.size w w' := by
  go_enter Try.func19, Try.ntmps19
  go_wp2_with fail
  refine (M.new 100 4 16 w).mono ?_
  rintro e w1 ⟨b, S, rfl, h1, b1, s1⟩
  have h1 : M.Is w1 b S 100 16 ag0 af := h1
  go_wp2_with fail
  refine (M.take 5 h1 (by omega) (by omega)).mono ?_
  rintro e w2 ⟨u, pgs, S2, rfl, t2, h2, f2, s2⟩
  obtain ⟨rfl, rfl⟩ := t2.one awk_t1
  have b2 : Below w.heap.size w w2 := b1.trans (f2.below b1.size fun k hk hs => by have := s1 k hs; omega)
  have s2 : ∀ k, S2 k → w.heap.size ≤ k := fun k hk => (s2 k hk).elim (s1 k) (fun h => by have := b1.size; omega)
  clear b1 s1 f2 h1 t2
  unfold yesV
  go_wp2_with fail
  refine (M.take 20 h2 (by omega) (by omega)).mono ?_
  rintro e w3 ⟨u, pgs, S3, rfl, t3, h3, f3, s3⟩
  obtain ⟨rfl, rfl⟩ := t3.one awk_t2
  have b3 : Below w.heap.size w w3 := b2.trans (f3.below b2.size fun k hk hs => by have := s2 k hs; omega)
  have s3 : ∀ k, S3 k → w.heap.size ≤ k := fun k hk => (s3 k hk).elim (s2 k) (fun h => by have := b2.size; omega)
  clear b2 s2 f3 h2 t3
  unfold yesV
  go_wp2_with fail
  refine (M.take 6 h3 (by omega) (by omega)).mono ?_
  rintro e w4 ⟨u, pgs, S4, rfl, t4, h4, f4, s4⟩
  obtain ⟨rfl, rfl⟩ := t4.one awk_t3
  have b4 : Below w.heap.size w w4 := b3.trans (f4.below b3.size fun k hk hs => by have := s3 k hs; omega)
  have s4 : ∀ k, S4 k → w.heap.size ≤ k := fun k hk => (s4 k hk).elim (s3 k) (fun h => by have := b3.size; omega)
  clear b3 s3 f4 h3 t4
  unfold yesV
  have H4 := Lib.hid h4
  have S4' := Lib.hid s4
  clear h4 s4
  go_wp2_with fail
  refine (M.size 116 H4.out (by omega) (by omega)).mono ?_
  rintro e w5 ⟨rfl, b5⟩
  rw [awk_size]
  have h5 := Lib.hid (M.keep H4.out b5)
  have b5 := below_trans b4 b5
  clear b4
  go_wp2_with fail
  refine (M.free h5.out).mono ?_
  rintro e w6 ⟨rfl, b6⟩
  rw [awk_free]
  have h6 := Lib.hid (M.keep h5.out b6)
  have b6 := below_trans b5 b6
  clear h5
  go_wp2_with fail
  refine (M.used h6.out).mono ?_
  rintro e w7 ⟨rfl, b7⟩
  rw [awk_used]
  have h7 := Lib.hid (M.keep h6.out b7)
  have b7 := below_trans b6 b7
  clear h6
  go_wp2_with fail
  refine (M.starts 0 200 h7.out (by omega) (by omega) (by omega) (by omega)).mono ?_
  rintro e w8 ⟨u, rfl, o8, b8⟩
  have h8 := Lib.hid (M.keep h7.out b8)
  have b8 := below_trans b7 b8
  rw [awk_starts] at o8
  obtain ⟨ao, cap, rfl, _⟩ := o8.at_
  clear o8 h7
  go_wp2_with fail
  refine (M.give 100 h8.out (by omega) (by omega)).mono ?_
  rintro e w9 ⟨ok, pgs, ps, S9, rfl, t9, h9, f9, s9⟩
  obtain ⟨rfl, rfl, rfl⟩ := t9.one (by omega) (M.wf h8.out).1 awk_g1
  have b9 : Below w.heap.size w w9 := b8.trans (f9.below b8.size fun k hk hs => by have := S4'.out k hs; omega)
  have s9 : ∀ k, S9 k → w.heap.size ≤ k := fun k hk => (s9 k hk).elim (S4'.out k) (fun h => by have := b8.size; omega)
  have H9 := Lib.hid h9
  clear h8 t9 h9 f9
  go_wp2_with fail
  refine (M.give 100 H9.out (by omega) (by omega)).mono ?_
  rintro e w10 ⟨ok, pgs, ps, S10, rfl, t10, h10, f10, s10⟩
  obtain ⟨rfl, rfl, rfl⟩ := t10.one (by omega) (M.wf H9.out).1 awk_g2
  have b10 : Below w.heap.size w w10 := b9.trans (f10.below b9.size fun k hk hs => by have := s9 k hs; omega)
  clear h10 t10 f10 s10 s9
  go_wp2
  go_ret
  exact ⟨rfl, b10⟩
end Go.Proofs.Ytinoeofimajpdaa

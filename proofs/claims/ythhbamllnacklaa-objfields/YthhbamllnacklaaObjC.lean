/- Contracts of Head, Make, Move. -/
import Derived.Test.YthhbamllnacklaaObjB
namespace Go.Proofs.Ythhbamllnacklaa
open Go.RowKit

theorem Has.lt {w : World} {a b : Nat} {ws : List Int} (h : Has w a b ws) : a < w.heap.size ∧ b < w.heap.size := ⟨h.choose_spec.ltA, h.choose_spec.ltB⟩

theorem Now.set {w w' : World} {a b : Nat} {ws : List Int} (t : Now a b ws w w') {p : Addr} (hp : w.heap.size ≤ p.block) (hl : a < w.heap.size ∧ b < w.heap.size) (v : Value) : Now a b ws w (w'.setCell p v) := by
  obtain ⟨c, i1, i2⟩ := t.is
  exact ⟨⟨c, i1.far (by omega) v, i2.far (by omega) v⟩, t.frm.setCell (fun e => absurd hp (by omega)) v⟩

theorem Now.set7 {w w' : World} {a b : Nat} {ws : List Int} (t : Now a b ws w w') (r : Nat) (hp : w.heap.size ≤ r) (hl : a < w.heap.size ∧ b < w.heap.size) (v0 v1 v2 v3 v4 v5 v6 : Value) :
    Now a b ws w (((((((w'.setCell ⟨r, 0, none⟩ v0).setCell ⟨r, 1, none⟩ v1).setCell ⟨r, 2, none⟩ v2).setCell ⟨r, 3, none⟩ v3).setCell ⟨r, 4, none⟩ v4).setCell ⟨r, 5, none⟩ v5).setCell ⟨r, 6, none⟩ v6) :=
  ((((((t.set (p := ⟨r, 0, none⟩) hp hl v0).set (p := ⟨r, 1, none⟩) hp hl v1).set (p := ⟨r, 2, none⟩) hp hl v2).set (p := ⟨r, 3, none⟩) hp hl v3).set (p := ⟨r, 4, none⟩) hp hl v4).set (p := ⟨r, 5, none⟩) hp hl v5).set (p := ⟨r, 6, none⟩) hp hl v6

/-- A block that is none of the arena's. -/
theorem Now.blk {w w' : World} {a b r : Nat} {ws : List Int} {cs : Array Value} {t : TypeId} (n : Now a b ws w w') (k : Blk w r cs t) (ha : r ≠ a) (hb : r ≠ b) : Blk w' r cs t :=
  k.frm n.frm (by omega)

section
variable (a b : Nat) (ws : List Int) (w : World) (h : Has w a b ws) (hl : ws.length ≤ 1048576)
include h hl

set_option maxHeartbeats 1000000 in
theorem head_yes (at_ x : Int) (hi : InW ws.length at_ 0) (hx : ws[at_.toNat]? = some x) (x0 : 0 ≤ x) (x1 : x < 18446744073709551616) (hh : isHd x = true) :
    Calls Try.prog 15 #[arP a, .int .i64 at_] w fun e w' => e = .returned (.tuple #[unV x, .int .i64 0]) ∧ Now a b ws w w' := by
  have hlt := Lib.hid h.lt
  have L := Lib.hid (oLoad_yes a b ws _ (h.alloc (.cells #[.int .i64 0, .int .i64 0, .int .i64 0, .int .i64 0, .bool false, .bool false, .bool false] 24)) hl at_ 0 x (by omega) (by omega) hi (by rw [Int.add_zero]; exact hx))
  have HH := Lib.hid hh
  clear h hl hi hx hh
  go_enter Try.func15, Try.ntmps15
  go_wp2_with fail
  refine L.out.mono ?_
  rintro e w1 ⟨rfl, t1⟩
  have k1 := Lib.hid (t1.blk (Blk.new w _ _) (by have := hlt.out; omega) (by have := hlt.out; omega))
  have T1 := Lib.hid t1.pre_alloc
  clear t1
  go_wp2_with fail
  refine (unpack_yes x x0 x1 _ HH.out).mono ?_
  rintro e w2 ⟨rfl, b2⟩
  have T2 := Lib.hid (T1.out.post b2)
  have k2 := k1.out.keep b2
  clear b2 k1 T1
  obtain ⟨c0, c1, c2, c3, c4, c5, c6, fz⟩ := (k2.alloc (.cells #[.int .i64 (sS x), .int .i64 (sP x), .int .i64 (sA x), .int .i64 (sY x), .bool (sG x), .bool (sN x), .bool (sO x)] 24)).seven
  go_wp2
  exact bodyPost_ret (v := .tuple #[unV x, .int .i64 0]) (by simp [results, Try.results15, go_sem, c0, c1, c2, c3, c4, c5, c6]) rfl ⟨rfl, (T2.out.post ((Below.refl _ _).alloc (Nat.le_refl _) _)).set7 _ (Nat.le_refl _) hlt.out _ _ _ _ _ _ _⟩

set_option maxHeartbeats 1000000 in
theorem head_bad (at_ x : Int) (hi : InW ws.length at_ 0) (hx : ws[at_.toNat]? = some x) (x0 : 0 ≤ x) (x1 : x < 18446744073709551616) (hh : isHd x = false) :
    Calls Try.prog 15 #[arP a, .int .i64 at_] w fun e w' => e = .returned (.tuple #[noV, .int .i64 1]) ∧ Now a b ws w w' := by
  have hlt := Lib.hid h.lt
  have L := Lib.hid (oLoad_yes a b ws _ (h.alloc (.cells #[.int .i64 0, .int .i64 0, .int .i64 0, .int .i64 0, .bool false, .bool false, .bool false] 24)) hl at_ 0 x (by omega) (by omega) hi (by rw [Int.add_zero]; exact hx))
  have HH := Lib.hid hh
  clear h hl hi hx hh
  go_enter Try.func15, Try.ntmps15
  go_wp2_with fail
  refine L.out.mono ?_
  rintro e w1 ⟨rfl, t1⟩
  have k1 := Lib.hid (t1.blk (Blk.new w _ _) (by have := hlt.out; omega) (by have := hlt.out; omega))
  have T1 := Lib.hid t1.pre_alloc
  clear t1
  go_wp2_with fail
  refine (unpack_no x x0 x1 _ HH.out).mono ?_
  rintro e w2 ⟨rfl, b2⟩
  have T2 := Lib.hid (T1.out.post b2)
  have k2 := k1.out.keep b2
  clear b2 k1 T1
  obtain ⟨c0, c1, c2, c3, c4, c5, c6, fz⟩ := (k2.alloc (.cells #[.int .i64 0, .int .i64 0, .int .i64 0, .int .i64 0, .bool false, .bool false, .bool false] 24)).seven
  go_wp2
  exact bodyPost_ret (v := .tuple #[noV, .int .i64 1]) (by simp [results, Try.results15, go_sem, c0, c1, c2, c3, c4, c5, c6]) rfl ⟨rfl, (T2.out.post ((Below.refl _ _).alloc (Nat.le_refl _) _)).set7 _ (Nat.le_refl _) hlt.out _ _ _ _ _ _ _⟩

set_option maxHeartbeats 1000000 in
theorem begin_yes (at_ x : Int) (hi : InW ws.length at_ 1) :
    Calls Try.prog 29 #[arP a, .int .i64 at_, .int .u64 x] w fun e w' => e = .returned (.int .i64 0) ∧ Now a b ((ws.set at_.toNat x).set (at_ + 1).toNat at_) w w' := by
  obtain ⟨h0, h1⟩ := hi
  obtain ⟨c, hc⟩ := h
  have L := Lib.hid (store_at a b ws c w hc hl at_ x h0 (by omega))
  have HL := Lib.hid hl
  have HI := Lib.hid h1
  have p1 := Lib.hid (show at_ ≤ 1048576 by omega)
  clear hc hl h1
  go_enter Try.func29, Try.ntmps29
  go_wp2_with fail
  refine L.out.mono ?_
  rintro e w1 ⟨rfl, t⟩
  have T := Lib.hid t.now
  clear t
  go_wp2_with fail
  refine (setWay_yes a b _ _ T.out.is (by rw [List.length_set]; exact HL.out) at_ at_ h0 p1.out ⟨h0, by rw [List.length_set]; exact HI.out⟩).mono ?_
  rintro e w2 ⟨rfl, t2⟩
  have T2 := Lib.hid (T.out.trans t2)
  clear t2
  go_wp2
  go_ret
  exact ⟨rfl, T2.out⟩

omit hl in
set_option maxHeartbeats 1000000 in
theorem make_arg (at_ : Int) (s p q y : Int) (g n o : Bool) (hg : goodB s p q y = false) :
    Calls Try.prog 9 #[arP a, .int .i64 at_, hdV s p q y g n o] w fun e w' => e = .returned (.int .i64 1) ∧ Now a b ws w w' := by
  have HH := Lib.hid h
  clear h
  go_enter Try.func9, Try.ntmps9
  go_wp2_with fail
  refine (pack_no _ _ _ _ _ _ _ _ hg).mono ?_
  rintro e w1 ⟨rfl, b1⟩
  go_wp2
  go_ret
  exact ⟨rfl, HH.out.now (below_alloc_trans _ b1)⟩

/-- The words of an object of that size, at a place, are there. -/
def Room (len : Nat) (at_ s : Int) : Prop := 0 ≤ at_ ∧ at_ + (s + 2) ≤ len

set_option maxHeartbeats 1000000 in
theorem make_no (at_ : Int) (s p q y : Int) (g n o : Bool) (hg : goodB s p q y = true) (hi : ¬ Room ws.length at_ s) :
    Calls Try.prog 9 #[arP a, .int .i64 at_, hdV s p q y g n o] w fun e w' => e = .returned (.int .i64 2) ∧ Now a b ws w w' := by
  unfold Room at hi
  have HH := Lib.hid h
  have HI := Lib.hid hi
  have HL := Lib.hid hl
  have HG := Lib.hid hg
  have hs := Lib.hid (show 0 ≤ s ∧ s ≤ 64 by have := (goodB_iff ..).1 hg; omega)
  clear h hl hi hg
  cases P1 : plB at_
  · have P1 := Lib.hid P1
    go_enter Try.func9, Try.ntmps9
    go_wp2_with fail
    refine (pack_yes _ _ _ _ _ _ _ _ HG.out).mono ?_
    rintro e w1 ⟨rfl, b1⟩
    go_wp2_with fail
    refine (isPlace_any _ _).mono ?_
    rintro e w2 ⟨he, rfl⟩
    obtain rfl : e = .returned (.bool false) := he.trans (ret_bool P1.out)
    go_wp2
    go_ret
    exact ⟨rfl, HH.out.now (below_alloc_trans _ b1)⟩
  · have hp := Lib.hid (show 0 ≤ at_ ∧ at_ ≤ 1048576 by simpa [plB] using P1)
    have P1 := Lib.hid P1
    go_enter Try.func9, Try.ntmps9
    go_wp2_with fail
    refine (pack_yes _ _ _ _ _ _ _ _ HG.out).mono ?_
    rintro e w1 ⟨rfl, b1⟩
    have k1 := (Blk.new w _ _).keep b1
    obtain ⟨c0, c1, c2, c3, c4, c5, c6, fz⟩ := k1.seven
    go_wp2_with fail
    refine (isPlace_any _ _).mono ?_
    rintro e w2 ⟨he, rfl⟩
    obtain rfl : e = .returned (.bool true) := he.trans (ret_bool P1.out)
    go_wp2_with fail
    refine (oWords_any _ _ _ _ _ _ _ _ hs.out.1 hs.out.2).mono ?_
    rintro e w2 ⟨rfl, b2⟩
    clear c0 c1 c2 c3 c4 c5 c6 fz k1
    have B := Lib.hid (below_trans (below_alloc_trans _ b1) b2)
    clear b1 b2
    obtain ⟨c, hc⟩ := HH.out.keep B.out
    have HC := Lib.hid hc
    clear hc
    go_wp2_with fail
    refine (zero_no a b ws c at_ (s + 2) _ HC.out HL.out (by have := hp.out; omega) ((hasB_no ..).2 (by have := HI.out; omega))).mono ?_
    rintro e w3 ⟨rfl, rfl⟩
    go_wp2
    go_ret
    exact ⟨rfl, HH.out.now B.out⟩

/-- What Make leaves. -/
def madeW (ws : List Int) (at_ s x : Int) : List Int := ((splice ws at_.toNat (List.replicate (s + 2).toNat 0)).set at_.toNat x).set (at_ + 1).toNat at_

omit h hl in
theorem splice_len {at_ s : Int} (hs : 0 ≤ s) (hi : Room ws.length at_ s) : (splice ws at_.toNat (List.replicate (s + 2).toNat (0 : Int))).length = ws.length := by
  obtain ⟨h0, h1⟩ := hi
  exact length_splice _ _ _ (by rw [List.length_replicate]; omega)

set_option maxHeartbeats 1000000 in
theorem make_yes (at_ : Int) (s p q y : Int) (g n o : Bool) (hg : goodB s p q y = true) (hi : Room ws.length at_ s) :
    Calls Try.prog 9 #[arP a, .int .i64 at_, hdV s p q y g n o] w fun e w' => e = .returned (.int .i64 0) ∧ Now a b (madeW ws at_ s (wordI s p q y g n o)) w w' := by
  have hs := Lib.hid (show 0 ≤ s ∧ s ≤ 64 by have := (goodB_iff ..).1 hg; omega)
  have SL := Lib.hid (splice_len ws hs.out.1 hi)
  obtain ⟨h0, h1⟩ := hi
  have HH := Lib.hid h
  have HI := Lib.hid h1
  have HL := Lib.hid hl
  have HG := Lib.hid hg
  have P1 := Lib.hid (plB_yes (x := at_) h0 (by have := hs.out; omega))
  clear h hl h1 hg
  go_enter Try.func9, Try.ntmps9
  go_wp2_with fail
  refine (pack_yes _ _ _ _ _ _ _ _ HG.out).mono ?_
  rintro e w1 ⟨rfl, b1⟩
  have k1 := (Blk.new w _ _).keep b1
  obtain ⟨c0, c1, c2, c3, c4, c5, c6, fz⟩ := k1.seven
  go_wp2_with fail
  refine (isPlace_any _ _).mono ?_
  rintro e w2 ⟨he, rfl⟩
  obtain rfl : e = .returned (.bool true) := he.trans (ret_bool P1.out)
  go_wp2_with fail
  refine (oWords_any _ _ _ _ _ _ _ _ hs.out.1 hs.out.2).mono ?_
  rintro e w2 ⟨rfl, b2⟩
  clear c0 c1 c2 c3 c4 c5 c6 fz k1
  have B := Lib.hid (below_trans (below_alloc_trans _ b1) b2)
  clear b1 b2
  obtain ⟨c, hc⟩ := HH.out.keep B.out
  have HC := Lib.hid hc
  clear hc
  go_wp2_with fail
  refine (zero_at a b ws c _ HC.out HL.out at_ (s + 2) h0 (by have := hs.out; omega) HI.out).mono ?_
  rintro e w3 ⟨rfl, t3⟩
  have T3 := Lib.hid (t3.now.pre B.out)
  clear t3 HC
  go_wp2_with fail
  refine (begin_yes a b _ _ T3.out.is (by rw [SL.out]; exact HL.out) at_ _ ⟨h0, by rw [SL.out]; have := HI.out; have := hs.out; omega⟩).mono ?_
  rintro e w4 ⟨rfl, t4⟩
  have T4 := Lib.hid (T3.out.trans t4)
  clear t4
  go_wp2
  go_ret
  exact ⟨rfl, T4.out⟩

omit hl in
set_option maxHeartbeats 1000000 in
theorem move_arg (fr to : Int) (s p q y : Int) (g n o : Bool) (hg : goodB s p q y = false) :
    Calls Try.prog 21 #[arP a, .int .i64 fr, .int .i64 to, hdV s p q y g n o] w fun e w' => e = .returned (.int .i64 1) ∧ Now a b ws w w' := by
  have HH := Lib.hid h
  clear h
  go_enter Try.func21, Try.ntmps21
  go_wp2_with fail
  refine (pack_no _ _ _ _ _ _ _ _ hg).mono ?_
  rintro e w1 ⟨rfl, b1⟩
  go_wp2
  go_ret
  exact ⟨rfl, HH.out.now (below_alloc_trans _ b1)⟩

set_option maxHeartbeats 1000000 in
theorem move_no (fr to : Int) (s p q y : Int) (g n o : Bool) (hg : goodB s p q y = true) (hi : ¬ (Room ws.length fr s ∧ Room ws.length to s)) :
    Calls Try.prog 21 #[arP a, .int .i64 fr, .int .i64 to, hdV s p q y g n o] w fun e w' => e = .returned (.int .i64 2) ∧ Now a b ws w w' := by
  unfold Room at hi
  have HH := Lib.hid h
  have HI := Lib.hid hi
  have HL := Lib.hid hl
  have HG := Lib.hid hg
  have hs := Lib.hid (show 0 ≤ s ∧ s ≤ 64 by have := (goodB_iff ..).1 hg; omega)
  clear h hl hi hg
  cases P1 : plB fr
  · have P1 := Lib.hid P1
    go_enter Try.func21, Try.ntmps21
    go_wp2_with fail
    refine (pack_yes _ _ _ _ _ _ _ _ HG.out).mono ?_
    rintro e w1 ⟨rfl, b1⟩
    go_wp2_with fail
    refine (isPlace_any _ _).mono ?_
    rintro e w2 ⟨he, rfl⟩
    obtain rfl : e = .returned (.bool false) := he.trans (ret_bool P1.out)
    go_wp2
    go_ret
    exact ⟨rfl, HH.out.now (below_alloc_trans _ b1)⟩
  · have hp := Lib.hid (show 0 ≤ fr ∧ fr ≤ 1048576 by simpa [plB] using P1)
    have P1 := Lib.hid P1
    cases P2 : plB to
    · have P2 := Lib.hid P2
      go_enter Try.func21, Try.ntmps21
      go_wp2_with fail
      refine (pack_yes _ _ _ _ _ _ _ _ HG.out).mono ?_
      rintro e w1 ⟨rfl, b1⟩
      go_wp2_with fail
      refine (isPlace_any _ _).mono ?_
      rintro e w2 ⟨he, rfl⟩
      obtain rfl : e = .returned (.bool true) := he.trans (ret_bool P1.out)
      go_wp2_with fail
      refine (isPlace_any _ _).mono ?_
      rintro e w2 ⟨he, rfl⟩
      obtain rfl : e = .returned (.bool false) := he.trans (ret_bool P2.out)
      go_wp2
      go_ret
      exact ⟨rfl, HH.out.now (below_alloc_trans _ b1)⟩
    · have hq := Lib.hid (show 0 ≤ to ∧ to ≤ 1048576 by simpa [plB] using P2)
      have P2 := Lib.hid P2
      go_enter Try.func21, Try.ntmps21
      go_wp2_with fail
      refine (pack_yes _ _ _ _ _ _ _ _ HG.out).mono ?_
      rintro e w1 ⟨rfl, b1⟩
      have k1 := (Blk.new w _ _).keep b1
      obtain ⟨c0, c1, c2, c3, c4, c5, c6, fz⟩ := k1.seven
      go_wp2_with fail
      refine (isPlace_any _ _).mono ?_
      rintro e w2 ⟨he, rfl⟩
      obtain rfl : e = .returned (.bool true) := he.trans (ret_bool P1.out)
      go_wp2_with fail
      refine (isPlace_any _ _).mono ?_
      rintro e w2 ⟨he, rfl⟩
      obtain rfl : e = .returned (.bool true) := he.trans (ret_bool P2.out)
      go_wp2_with fail
      refine (oWords_any _ _ _ _ _ _ _ _ hs.out.1 hs.out.2).mono ?_
      rintro e w2 ⟨rfl, b2⟩
      clear c0 c1 c2 c3 c4 c5 c6 fz k1
      have B := Lib.hid (below_trans (below_alloc_trans _ b1) b2)
      clear b1 b2
      obtain ⟨c, hc⟩ := HH.out.keep B.out
      have HC := Lib.hid hc
      clear hc
      go_wp2_with fail
      refine (copy_no a b ws c fr to (s + 2) _ HC.out HL.out (by have := hp.out; omega) (by have := hq.out; omega) (by rw [hasB_no, hasB_no]; have := HI.out; omega)).mono ?_
      rintro e w3 ⟨rfl, rfl⟩
      go_wp2
      go_ret
      exact ⟨rfl, HH.out.now B.out⟩

/-- What Move leaves. -/
def movedW (ws : List Int) (fr to s x : Int) : List Int := (((splice ws to.toNat ((ws.drop fr.toNat).take (s + 2).toNat)).set to.toNat x).set (to + 1).toNat to).set (fr + 1).toNat to

omit h hl in
theorem splice_len2 {fr to s : Int} (hs : 0 ≤ s) (hi : Room ws.length fr s) (hj : Room ws.length to s) : (splice ws to.toNat ((ws.drop fr.toNat).take (s + 2).toNat)).length = ws.length := by
  obtain ⟨h0, h1⟩ := hi
  obtain ⟨j0, j1⟩ := hj
  exact length_splice _ _ _ (by rw [List.length_take, List.length_drop]; omega)

set_option maxHeartbeats 1000000 in
theorem move_yes (fr to : Int) (s p q y : Int) (g n o : Bool) (hg : goodB s p q y = true) (hi : Room ws.length fr s) (hj : Room ws.length to s) :
    Calls Try.prog 21 #[arP a, .int .i64 fr, .int .i64 to, hdV s p q y g n o] w fun e w' => e = .returned (.int .i64 0) ∧ Now a b (movedW ws fr to s (wordI s p q y g n o)) w w' := by
  have hs := Lib.hid (show 0 ≤ s ∧ s ≤ 64 by have := (goodB_iff ..).1 hg; omega)
  have SL := Lib.hid (splice_len2 ws hs.out.1 hi hj)
  obtain ⟨h0, h1⟩ := hi
  obtain ⟨j0, j1⟩ := hj
  have HH := Lib.hid h
  have HI := Lib.hid h1
  have HJ := Lib.hid j1
  have HL := Lib.hid hl
  have HG := Lib.hid hg
  have P1 := Lib.hid (plB_yes (x := fr) h0 (by have := hs.out; omega))
  have P2 := Lib.hid (plB_yes (x := to) j0 (by have := hs.out; omega))
  clear h hl h1 hg j1
  go_enter Try.func21, Try.ntmps21
  go_wp2_with fail
  refine (pack_yes _ _ _ _ _ _ _ _ HG.out).mono ?_
  rintro e w1 ⟨rfl, b1⟩
  have k1 := (Blk.new w _ _).keep b1
  obtain ⟨c0, c1, c2, c3, c4, c5, c6, fz⟩ := k1.seven
  go_wp2_with fail
  refine (isPlace_any _ _).mono ?_
  rintro e w2 ⟨he, rfl⟩
  obtain rfl : e = .returned (.bool true) := he.trans (ret_bool P1.out)
  go_wp2_with fail
  refine (isPlace_any _ _).mono ?_
  rintro e w2 ⟨he, rfl⟩
  obtain rfl : e = .returned (.bool true) := he.trans (ret_bool P2.out)
  go_wp2_with fail
  refine (oWords_any _ _ _ _ _ _ _ _ hs.out.1 hs.out.2).mono ?_
  rintro e w2 ⟨rfl, b2⟩
  clear c0 c1 c2 c3 c4 c5 c6 fz k1
  have B := Lib.hid (below_trans (below_alloc_trans _ b1) b2)
  clear b1 b2
  obtain ⟨c, hc⟩ := HH.out.keep B.out
  have HC := Lib.hid hc
  clear hc
  go_wp2_with fail
  refine (copy_at a b ws c _ HC.out HL.out fr to (s + 2) h0 j0 (by have := hs.out; omega) HI.out HJ.out).mono ?_
  rintro e w3 ⟨rfl, t3⟩
  have T3 := Lib.hid (t3.now.pre B.out)
  clear t3 HC
  go_wp2_with fail
  refine (begin_yes a b _ _ T3.out.is (by rw [SL.out]; exact HL.out) to _ ⟨j0, by rw [SL.out]; have := HJ.out; have := hs.out; omega⟩).mono ?_
  rintro e w4 ⟨rfl, t4⟩
  have T4 := Lib.hid (T3.out.trans t4)
  clear t4
  go_wp2_with fail
  refine (setWay_yes a b _ _ T4.out.is (by rw [List.length_set, List.length_set, SL.out]; exact HL.out) fr to j0 (by have := HJ.out; have := HL.out; have := hs.out; omega) ⟨h0, by rw [List.length_set, List.length_set, SL.out]; have := HI.out; have := hs.out; omega⟩).mono ?_
  rintro e w5 ⟨rfl, t5⟩
  have T5 := Lib.hid (T4.out.trans t5)
  clear t5
  go_wp2
  go_ret
  exact ⟨rfl, T5.out⟩
end
end Go.Proofs.Ythhbamllnacklaa

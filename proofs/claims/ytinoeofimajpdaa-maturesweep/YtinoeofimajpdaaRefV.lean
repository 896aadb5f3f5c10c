/- Contract of the document's Starts: the places of what is in use, in a part, in order. -/
import Derived.Test.YtinoeofimajpdaaRefT
import Derived.OwnWalk
import Derived.Deep.RegionLaw
import Derived.BigRegion
import Derived.Deep.RegionHeld3
namespace Go.Proofs.Ytinoeofimajpdaa
open Go.RowKit

def inB (f t : Int) (c : Rc) : Bool := c.used && decide (f ≤ c.pos) && decide (c.pos < t)

def ints (ys : List Int) : List Value := ys.map (Value.int .i64)

theorem ints_length (ys : List Int) : (ints ys).length = ys.length := by simp [ints]

/-- v is a slice of a block made since base, which holds ys. -/
def OwnI (w : World) (base : Nat) (v : Value) (ys : List Int) : Prop := w.ownsRow base 3 1 v ys.length (ints ys)

theorem OwnI.at_ {w : World} {base : Nat} {v : Value} {ys : List Int} (h : OwnI w base v ys) : ∃ ao cap, v = .slice ao ys.length cap ∧ ∀ (i : Nat) (y : Int), ys[i]? = some y → ∃ g, ao = some ⟨g, 0, none⟩ ∧ base ≤ g ∧ g < w.heap.size ∧ (∀ (j : Nat) (z : Int), ys[j]? = some z → w.cell? ⟨g, j, none⟩ = some (.int .i64 z)) ∧ (∀ k, w.frozen? ⟨g, k, none⟩ = false) := by
  rcases h.2 with ⟨rfl, h0⟩ | ⟨g, cap, cur, rfl, hb, hg, hn, hm, hs, ht⟩
  · refine ⟨none, 0, by rw [h0], fun i c hi => ?_⟩
    obtain ⟨hh, _⟩ := List.getElem?_eq_some_iff.1 hi
    omega
  · have hB : Blk w g cur 3 := hg
    refine ⟨some ⟨g, 0, none⟩, cap, rfl, fun i c hi => ⟨g, rfl, hb, hB.lt, fun j z hj => ?_, hB.frozen⟩⟩
    have hjl : j < ys.length := (List.getElem?_eq_some_iff.1 hj).1
    have e : (ints ys)[j]? = some (.int .i64 z) := by simp [ints, hj]
    rw [hB.cell, ← e, ← ht, List.getElem?_take_of_lt (by omega), Array.getElem?_toList]

theorem info_int : (Try.prog.info? 3).map (fun i => (i.zero, i.size, i.bytes)) = some (some (.int .i64 0), 1, 8) := by kernel_rfl

theorem OwnI.set_ {w : World} {base g cap n : Nat} {ys : List Int} (h : OwnI w base (.slice (some ⟨g, 0, none⟩) n cap) ys) (i : Nat) (y : Int) :
    OwnI (w.setCell ⟨g, i, none⟩ (.int .i64 y)) base (.slice (some ⟨g, 0, none⟩) n cap) (ys.set i y) := by
  rcases h.2 with ⟨e, _⟩ | ⟨g', cap', cur, e, hb, hg, hn, hm, hs, ht⟩
  · cases e
  · cases e
    have hB : Blk w g cur 3 := hg
    refine ⟨by simp [ints], .inr ⟨g, cap, cur.setIfInBounds i (.int .i64 y), by rw [List.length_set], hb, hB.set_ i _, by rw [List.length_set]; exact hn, hm, by simpa using hs, ?_⟩⟩
    rw [List.length_set, Array.toList_setIfInBounds, List.take_set, ht]
    simp [ints, List.map_set]

theorem OwnI.below {w w' : World} {base : Nat} {v : Value} {ys : List Int} (h : OwnI w base v ys) (b : Below w.heap.size w w') : OwnI w' base v ys := by
  refine ⟨h.1, h.2.imp id ?_⟩
  rintro ⟨g, cap, cur, e1, e2, e3, e4⟩
  exact ⟨g, cap, cur, e1, e2, (b.block g (Array.getElem?_eq_some_iff.1 e3).1).trans e3, e4⟩

/-- A list that is sorted but for one place. -/
theorem place_end {A B : List Int} {x : Int} (hs : (A ++ B).Pairwise (· ≤ ·)) (hb : ∀ b ∈ B, x ≤ b) (ha : ∀ y, A.getLast? = some y → y ≤ x) : (A ++ x :: B).Pairwise (· ≤ ·) := by
  rw [List.pairwise_append] at hs ⊢
  obtain ⟨h1, h2, h3⟩ := hs
  have hA : ∀ a ∈ A, a ≤ x := by
    rcases List.eq_nil_or_concat A with rfl | ⟨A', y, rfl⟩
    · intro a ha; simp at ha
    · have hy := ha y (by simp)
      intro a ham
      rw [List.concat_eq_append] at h1 ham
      rw [List.pairwise_append] at h1
      rcases List.mem_append.1 ham with h | h
      · exact Int.le_trans (h1.2.2 a h y (by simp)) hy
      · obtain rfl : a = y := by simpa using h
        exact hy
  refine ⟨h1, List.pairwise_cons.2 ⟨hb, h2⟩, fun a ha' b hb' => ?_⟩
  rcases List.mem_cons.1 hb' with rfl | h
  · exact hA a ha'
  · exact Int.le_trans (hA a ha') (hb b h)

theorem below_grown {w W w1 : World} {v : Value} {e : TypeId} {k n : Nat} {xs : List Value} (b : Below w.heap.size w W) (ho : W.ownsRow w.heap.size e k v n xs) (hg : W.grownBy w1 v.ownBlock) : Below w.heap.size w w1 :=
  b.trans ⟨hg.os, hg.tape, hg.output, hg.size, fun i hi => hg.block i (Nat.lt_of_lt_of_le hi b.size) fun e => by
    have := (ho.lt i e.symm).1
    omega⟩

theorem own_nil (w : World) : OwnI (w.alloc (.cells #[] 3)) w.heap.size (.slice (some ⟨w.heap.size, 0, none⟩) 0 0) [] :=
  ⟨rfl, .inr ⟨w.heap.size, 0, #[], rfl, Nat.le_refl _, Blk.new w _ _, Nat.le_refl _, Nat.zero_le _, rfl, rfl⟩⟩

theorem filter_snoc {cs : List Rc} {j : Nat} {c : Rc} (h : cs[j]? = some c) (f t : Int) : ((cs.take (j + 1)).filter (inB f t)).map Rc.pos = ((cs.take j).filter (inB f t)).map Rc.pos ++ (if inB f t c then [c.pos] else []) := by
  rw [take_snoc h, List.filter_append, List.map_append]
  congr 1
  cases e : inB f t c <;> simp [e]

theorem OwnI.snoc {w : World} {base : Nat} {v : Value} {ys : List Int} {x : Int} (h : w.ownsRow base 3 1 v (ys.length + 1) (ints ys ++ [.int .i64 x])) : OwnI w base v (ys ++ [x]) := by
  unfold OwnI
  rw [List.length_append, List.length_singleton, show ints (ys ++ [x]) = ints ys ++ [.int .i64 x] from by simp [ints]]
  exact h

theorem get_mid (A B : List Int) (y x : Int) : ((A ++ [y]) ++ x :: B)[A.length]? = some y ∧ ((A ++ [y]) ++ x :: B)[A.length + 1]? = some x := by
  constructor
  · simp
  · rw [List.getElem?_append_right (by simp)]; simp

theorem set_mid (A B : List Int) (y x : Int) : (((A ++ [y]) ++ x :: B).set A.length x).set (A.length + 1) y = A ++ x :: y :: B := by
  simp

theorem starts_done {ys A B L M : List Int} {x : Int} (hAB : ys = A ++ B) (h : ys.Pairwise (· ≤ ·) ∧ ys.Perm L) (hb : ∀ b ∈ B, x ≤ b) (ha : ∀ y, A.getLast? = some y → y ≤ x) (hM : M = L ++ [x]) :
    (A ++ x :: B).Pairwise (· ≤ ·) ∧ (A ++ x :: B).Perm M := by
  subst hAB hM
  refine ⟨place_end h.1 hb ha, ?_⟩
  refine List.Perm.trans List.perm_middle ?_
  exact (List.Perm.cons x h.2).trans (List.perm_append_singleton x L).symm

set_option maxHeartbeats 4000000 in
set_option maxRecDepth 100000 in
theorem refStarts_any (a : Nat) (F P G f t : Int) (v : Value) (cs : List Rc) (pb : Nat) (ps : List Bool) (w : World) (h : IsRf w a F P G v cs pb ps) :
    Calls Try.prog 17 #[spP a, .int .i64 f, .int .i64 t] w fun e w' => ∃ u ys, e = .returned u ∧ OwnI w' w.heap.size u ys ∧ ys.Pairwise (· ≤ ·) ∧ ys.Perm ((cs.filter (inB f t)).map Rc.pos) ∧ Below w.heap.size w w' := by
  have few := h.few
  have HH := Lib.hid h
  obtain ⟨ao, cap, rfl, _⟩ := h.lies
  clear h
  unfold spP
  obtain ⟨i0, hi, hz, hs, hb⟩ := info_parts info_int
  have HI0 := Lib.hid (And.intro hi (And.intro hz (And.intro hs hb)))
  clear hi hz hs hb
  go_enter Try.func17, Try.ntmps17
  go_wp2_with fail
  go_loopw [7, 8] (fun s7 s8 wr => ∃ (j : Nat) (ys : List Int), j ≤ cs.length ∧ s8 = .int .i64 j ∧ ys.length ≤ j ∧ Hid (OwnI wr w.heap.size s7 ys ∧ ys.Pairwise (· ≤ ·) ∧ ys.Perm (((cs.take j).filter (inB f t)).map Rc.pos)) ∧ Below w.heap.size w wr) (fun _ s8 _ => cs.length - (intOf s8).toNat)
  case atStart => exact ⟨0, [], Nat.zero_le _, rfl, Nat.zero_le _, Lib.hid ⟨own_nil w, List.Pairwise.nil, by simp⟩, (Below.refl _ _).alloc (Nat.le_refl _) _⟩
  case round =>
    obtain ⟨j, ys, hj, rfl, yl, HY, bb⟩ := hrel
    have hi := HH.out.keep bb
    obtain ⟨c0, c1, c2, c3, c4, cf⟩ := hi.sp.five
    by_cases hlt : j < cs.length
    · obtain ⟨c, hc⟩ : ∃ c, cs[j]? = some c := ⟨_, List.getElem?_eq_getElem hlt⟩
      obtain ⟨ao', cap', e, hl⟩ := hi.lies
      cases e
      obtain ⟨g, rfl, glt, d0, d1, d2, d3, df⟩ := hl j c hc
      have FS := Lib.hid (filter_snoc hc f t)
      have BN := Lib.hid (bb.alloc bb.size (.cells #[.int .i64 c.pos, .int .i64 c.words, .bool c.used, .bool c.large] 58))
      have ON := Lib.hid (HY.out.1.alloc (.cells #[.int .i64 c.pos, .int .i64 c.words, .bool c.used, .bool c.large] 58))
      have e0 : inB f t c = (c.used && decide (f ≤ c.pos) && decide (c.pos < t)) := rfl
      have E0 := Lib.hid e0
      clear hl hc e0
      have skip : inB f t c = false → ys.Perm (((cs.take (j + 1)).filter (inB f t)).map Rc.pos) := fun hn => by
        rw [FS.out, hn]
        simpa using HY.out.2.2
      have SK := Lib.hid skip
      clear skip
      cases u : c.used
      · rw [u] at d2
        have S1 := Lib.hid (SK.out (by rw [E0.out, u]; rfl))
        go_wp2
        go_roundw
        case rel => exact ⟨j + 1, ys, by omega, by go_num, by omega, Lib.hid ⟨by have := ON.out; rw [u] at this; exact this, HY.out.2.1, S1.out⟩, by have := BN.out; rw [u] at this; exact this⟩
        case measure => simp [intOf]; omega
      · rw [u] at d2 BN ON E0
        by_cases g1 : f ≤ c.pos
        · by_cases g2 : c.pos < t
          · have inn := Lib.hid (show inB f t c = true from by rw [E0.out, decide_eq_true g1, decide_eq_true g2]; rfl)
            obtain ⟨bo, bcap, eo, _⟩ := HY.out.1.at_
            subst eo
            have O2 := Lib.hid (ON.out.alloc (.cells #[.int .i64 c.pos] 3))
            have B2 := Lib.hid (BN.out.alloc BN.out.size (.cells #[.int .i64 c.pos] 3))
            clear SK u E0
            go_wp2_with (first
              | (at_builtin; (refine wpList_append_own_at _ rfl _ _ 36 rfl w.heap.size 3 i0 (.int .i64 0) 1 8 Try.underlying36 HI0.out.1 HI0.out.2.1 HI0.out.2.2.1 HI0.out.2.2.2 rfl (by decide) _ _ _ rfl O2.out ⟨wr.heap.size + 1, 0, none⟩ 1 1 [.int .i64 c.pos] rfl rfl ?c1 ?c2 ?c3 ?c4 ?c5 ?_))
              | fail)
            case c1 => exact fun j u hj => by have := cell_one_new (wr.alloc (.cells #[.int .i64 c.pos, .int .i64 c.words, .bool true, .bool c.large] 58)) _ 3 j u hj; simpa using this
            case c2 => intro x hx; simp at hx; subst hx; rfl
            case c3 => unfold maxLen; omega
            case c4 => omega
            case c5 => exact B2.out.size
            intro v1 w1 hown1 hgrow1 _ _
            have b1 := below_grown B2.out O2.out hgrow1
            have o1 := OwnI.snoc hown1
            have o1' := o1.at_
            obtain ⟨bo1, cap1, e1, h1⟩ := o1'
            obtain ⟨gg, rfl, _, _, _, _⟩ := h1 ys.length c.pos (by simp)
            subst e1
            rw [List.length_append, List.length_singleton] at o1
            have X0 := Lib.hid o1
            have X1 := Lib.hid b1
            have HY2 := Lib.hid HY.out.2
            clear o1 b1 h1 hown1 hgrow1 HY O2 B2 ON BN c0 c1 c2 c3 c4 cf d0 d1 d2 d3 df
            rw [List.length_append, List.length_singleton]
            go_wp2_with fail
            go_loopw [10] (fun s10 wr2 => ∃ (A B : List Int), s10 = .int .i64 A.length ∧ ys = A ++ B ∧ Hid (OwnI wr2 w.heap.size (.slice (some ⟨gg, 0, none⟩) (ys.length + 1) cap1) (A ++ c.pos :: B) ∧ ∀ b ∈ B, c.pos ≤ b) ∧ Below w.heap.size w wr2) (fun s10 _ => (intOf s10).toNat)
            case atStart => exact ⟨ys, [], rfl, by simp, Lib.hid ⟨X0.out, by simp⟩, X1.out⟩
            case round =>
              clear X0 X1
              obtain ⟨A, B, rfl, hAB, HO, b2⟩ := hrel
              have hlen : A.length + B.length = ys.length := by rw [hAB, List.length_append]
              have HAB := Lib.hid hAB
              clear hAB
              have FS1 := Lib.hid (show ((cs.take (j + 1)).filter (inB f t)).map Rc.pos = ((cs.take j).filter (inB f t)).map Rc.pos ++ [c.pos] from by rw [FS.out, inn.out]; rfl)
              rcases List.eq_nil_or_concat A with rfl | ⟨A', y, hA⟩
              · have F1 := Lib.hid (starts_done HAB.out HY2.out HO.out.2 (fun y hy => by simp at hy) FS1.out)
                have kd : decide ((0 : Int) < 0) = false := by decide
                simp only [List.length_nil, Int.cast_ofNat_Int] at *
                go_wp2_with fail
                go_quiet (fail)
                go_wp2
                go_roundw
                case rel => exact ⟨j + 1, [] ++ c.pos :: B, by omega, by go_num, by simp; omega, Lib.hid ⟨by have o := HO.out.1.below (below_drewN _ nq); exact o, F1.out⟩, below_trans b2 (below_drewN _ _)⟩
                case measure => simp [intOf]; omega
              · rw [List.concat_eq_append] at hA
                subst hA
                obtain ⟨k, hk⟩ : ∃ k, A'.length = k := ⟨_, rfl⟩
                have el : (A' ++ [y]).length = k + 1 := by rw [List.length_append, List.length_singleton, hk]
                rw [el] at hlen
                obtain ⟨ao2, cap2, e, hc⟩ := HO.out.1.at_
                injection e with e1 e2 e3
                clear e2 e3
                obtain ⟨g3, e, gge, glt2, hc, hf⟩ := hc k y (by rw [← hk]; exact (get_mid A' B y c.pos).1)
                rw [← e1] at e
                cases e
                clear e1
                have x0 := hc k y (by rw [← hk]; exact (get_mid A' B y c.pos).1)
                have x1 := hc (k + 1) c.pos (by rw [← hk]; exact (get_mid A' B y c.pos).2)
                have k0 : (0 : Int) ≤ (k : Int) := by omega
                have k1 : (k : Int) + 1 < (ys.length : Int) + 1 := by omega
                clear hc
                rw [el]
                by_cases lt : c.pos < y
                · go_wp2_with fail
                  go_quiet (fail)
                  go_wp2_with fail
                  go_region
                  go_wp2
                  go_roundw
                  case rel => exact ⟨A', y :: B, by rw [hk], by rw [HAB.out, List.append_assoc]; rfl, Lib.hid ⟨by
                    have o := ((HO.out.1.below (below_drewN _ (nq + 1))).set_ k c.pos).set_ (k + 1) y
                    rw [← hk, set_mid] at o
                    rw [← hk]
                    exact o, by
                    intro b hb
                    rcases List.mem_cons.1 hb with rfl | h
                    · omega
                    · exact HO.out.2 b h⟩, ((below_trans b2 (below_drewN _ (nq + 1))).setCell (by exact gge) _).setCell (by exact gge) _⟩
                  case measure => simp [intOf]
                · have F1 := Lib.hid (starts_done HAB.out HY2.out HO.out.2 (fun z hz => by
                    obtain rfl : y = z := by simpa using hz
                    omega) FS1.out)
                  have ld : decide (c.pos < y) = false := decide_eq_false lt
                  go_wp2_with fail
                  go_quiet (fail)
                  go_wp2
                  go_roundw
                  case rel => exact ⟨j + 1, (A' ++ [y]) ++ c.pos :: B, by omega, by go_num, by rw [List.length_append, el, List.length_cons]; omega, Lib.hid ⟨by have o := HO.out.1.below (below_drewN _ nq); exact o, F1.out⟩, below_trans b2 (below_drewN _ _)⟩
                  case measure => simp [intOf]; omega
          · have S1 := Lib.hid (SK.out (by rw [E0.out, decide_eq_false g2, Bool.and_false]))
            go_wp2
            go_roundw
            case rel => exact ⟨j + 1, ys, by omega, by go_num, by omega, Lib.hid ⟨ON.out, HY.out.2.1, S1.out⟩, BN.out⟩
            case measure => simp [intOf]; omega
        · have S1 := Lib.hid (SK.out (by rw [E0.out, decide_eq_false g1]; rfl))
          go_wp2
          go_roundw
          case rel => exact ⟨j + 1, ys, by omega, by go_num, by omega, Lib.hid ⟨ON.out, HY.out.2.1, S1.out⟩, BN.out⟩
          case measure => simp [intOf]; omega
    · obtain rfl : j = cs.length := by omega
      have D := Lib.hid HY.out
      rw [List.take_length] at D
      go_wp2
      go_ret
      exact ⟨_, ys, rfl, D.out.1, D.out.2.1, D.out.2.2, bb⟩
end Go.Proofs.Ytinoeofimajpdaa

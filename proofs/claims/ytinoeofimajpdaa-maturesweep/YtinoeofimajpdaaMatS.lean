/- Contract of the program's Starts. -/
import Derived.Test.YtinoeofimajpdaaMatF
import Derived.Test.YtinoeofimajpdaaRefV
namespace Go.Proofs.Ytinoeofimajpdaa
open Go.RowKit

/-- What is so far: the row, and which cells were met. -/
def StI (w0 : Nat) (wr : World) (v : Value) (ys : List Int) (f t : Int) (cs : List Rc) : Prop := OwnI wr w0 v ys ∧ ys = (cs.filter (inB f t)).map Rc.pos

theorem StI.skip {w0 : Nat} {wr : World} {v : Value} {ys : List Int} {f t : Int} {ds cs : List Rc} {j : Nat} {c : Rc} (h : StI w0 wr v ys f t (ds ++ cs.take j)) (hc : cs[j]? = some c) (hn : inB f t c = false) : StI w0 wr v ys f t (ds ++ cs.take (j + 1)) := by
  refine ⟨h.1, ?_⟩
  rw [starts_append, filter_snoc hc, hn, if_neg Bool.false_ne_true, List.append_nil, ← starts_append]
  exact h.2

theorem StI.push {w0 : Nat} {wr w1 : World} {v v1 : Value} {ys : List Int} {f t : Int} {ds cs : List Rc} {j : Nat} {c : Rc} (h : StI w0 wr v ys f t (ds ++ cs.take j)) (hc : cs[j]? = some c) (hn : inB f t c = true) (ho : OwnI w1 w0 v1 (ys ++ [c.pos])) : StI w0 w1 v1 (ys ++ [c.pos]) f t (ds ++ cs.take (j + 1)) := by
  refine ⟨ho, ?_⟩
  rw [starts_append, filter_snoc hc, hn, if_pos rfl, ← List.append_assoc, ← starts_append, ← h.2]

theorem StI.below {w0 : Nat} {wr w1 : World} {v : Value} {ys : List Int} {f t : Int} {cs : List Rc} (h : StI w0 wr v ys f t cs) (b : Below wr.heap.size wr w1) : StI w0 w1 v ys f t cs := ⟨h.1.below b, h.2⟩

/-- The row grows: a block of another type stays. -/
theorem Blk.grown {W w1 : World} {base : Nat} {v : Value} {ys : List Int} {c : Nat} {cs : Array Value} {T : TypeId} (h : Blk W c cs T) (hT : T ≠ 3) (ho : OwnI W base v ys) (hg : W.grownBy w1 v.ownBlock) : Blk w1 c cs T := by
  refine (hg.block c h.lt fun e => ?_).trans h
  rcases ho.2 with ⟨rfl, _⟩ | ⟨g, cap, cur, rfl, _, hB, _⟩
  · simp [Value.ownBlock] at e
  · have hB : Blk W g cur 3 := hB
    have : c = g := by simpa [Value.ownBlock] using e
    subst this
    exact Blk.ne_ h hB hT rfl

set_option maxHeartbeats 8000000 in
set_option maxRecDepth 100000 in
theorem mStarts_any (b pb : Nat) (ub : Nat → Nat) (F G : Int) (pgs : List Pg) (ps : List Bool) (f t : Int) (w : World) (h : IsSp w b pb ub F G pgs ps) :
    Calls Try.prog 23 #[spP b, .int .i64 f, .int .i64 t] w fun e w' => ∃ u, e = .returned u ∧ OwnI w' w.heap.size u (startsP F G pgs f t) ∧ Below w.heap.size w w' := by
  have few := h.p1
  rw [← h.len] at few
  have f0 := h.f0
  have f1 := h.f1
  have g0 := h.g0
  have g1 := h.g1
  have HH := Lib.hid h
  have HA := Lib.hid (all_any b F G pb pgs.length w h.sp)
  obtain ⟨N, hN⟩ : ∃ N, pgs.length = N := ⟨_, rfl⟩
  rw [hN] at HA few
  have HN := Lib.hid hN
  clear h hN
  obtain ⟨i0, hi, hz, hs, hb⟩ := info_parts info_int
  have HI0 := Lib.hid (And.intro hi (And.intro hz (And.intro hs hb)))
  clear hi hz hs hb
  unfold spP at HA ⊢
  go_enter Try.func23, Try.ntmps23
  go_wp2_with fail
  refine HA.out.mono ?_
  rintro e w1 ⟨rfl, rfl⟩
  go_wp2_with fail
  go_loopw [7, 16] (fun s7 s16 wr => ∃ (k : Nat) (ys : List Int), k ≤ N ∧ s16 = .int .i64 k ∧ ys.length ≤ 64 * k ∧ Hid (StI w.heap.size wr s7 ys f t (cellsP F G (pgs.take k))) ∧ Below w.heap.size w wr) (fun _ s16 _ => N - (intOf s16).toNat)
  case atStart => exact ⟨0, [], Nat.zero_le _, rfl, Nat.zero_le _, Lib.hid ⟨World.ownsRow_nil _ _ _ _, by rw [List.take_zero]; rfl⟩, Below.refl _ _⟩
  case round =>
    obtain ⟨k, ys, hk, rfl, yl, HY, bb⟩ := hrel
    generalize wr = wo at *
    by_cases hlt : k < N
    · obtain ⟨x, hx⟩ : ∃ x, pgs[k]? = some x := ⟨_, List.getElem?_eq_getElem (by have := HN.out; omega)⟩
      have hi := HH.out.keep bb
      obtain ⟨p, hp, d0, d1, d2, d3, df⟩ := hi.at_ hx
      obtain ⟨_, _, z0, z1, z2, _⟩ := hi.small hx
      have HX := Lib.hid hx
      have kG := page_in (G := G) (i := k) g0 g1 (by omega) (by omega)
      clear hx hp hi
      have B1 := Lib.hid (bb.alloc bb.size (.cells #[.int .i64 x.kind, .int .i64 (x.size G), .slice (x.adr (ub k)) x.flags.length x.flags.length, .bool p] 62))
      have C1 := Lib.hid (Blk.new wo #[.int .i64 x.kind, .int .i64 (x.size G), .slice (x.adr (ub k)) x.flags.length x.flags.length, .bool p] 62)
      have Y1 := Lib.hid (HY.out.below ((Below.refl _ wo).alloc (Nat.le_refl _) (.cells #[.int .i64 x.kind, .int .i64 (x.size G), .slice (x.adr (ub k)) x.flags.length x.flags.length, .bool p] 62)))
      clear bb HY
      go_wp2_with fail
      clear d0 d1 d2 d3 df
      go_loopw [7, 24] (fun s7 s24 wi => ∃ (j : Nat) (zs : List Int), j ≤ x.flags.length ∧ s24 = .int .i64 j ∧ zs.length ≤ 64 * k + j ∧ Hid (StI w.heap.size wi s7 zs f t (cellsP F G (pgs.take k) ++ (x.cells F G k).take j)) ∧ Hid (Blk wi wo.heap.size #[.int .i64 x.kind, .int .i64 (x.size G), .slice (x.adr (ub k)) x.flags.length x.flags.length, .bool p] 62) ∧ Below w.heap.size w wi) (fun _ s24 _ => x.flags.length - (intOf s24).toNat)
      case atStart => exact ⟨0, ys, Nat.zero_le _, rfl, by omega, Lib.hid (by rw [List.take_zero, List.append_nil]; exact Y1.out), C1, B1.out⟩
      case round =>
        clear B1 C1 Y1
        obtain ⟨j, zs, hj, rfl, zl, HZ, HC, bb⟩ := hrel
        by_cases jlt : j < x.flags.length
        · have hi := HH.out.keep bb
          obtain ⟨y, hy, ea, e4, e5⟩ := hi.flag HX.out jlt
          have c1 := HC.out.cell 1
          have cf := HC.out.frozen
          have KB := Lib.hid (fun m => begin_any b F G k pb pgs.length (wr.drewN m) (hi.keep (below_drewN _ m)).sp f0 f1 g0 g1 (by omega) (by omega))
          unfold spP at KB
          have hcell := Lib.hid (Pg.cells_at F G k x jlt)
          have js : 0 ≤ (j : Int) * x.size G ∧ (j : Int) * x.size G ≤ 1048576 := by
            have h0 : 0 ≤ (j : Int) * x.size G := Int.mul_nonneg (by omega) z0
            have h1 := Int.mul_le_mul_of_nonneg_right (show (j : Int) ≤ 64 by omega) z0
            omega
          have hu := Lib.hid (show (x.cell F G k j).used = y from by show x.flags.getD j false = y; rw [List.getD_eq_getElem?_getD, hy]; rfl)
          have hw1 : IntKind.i64.wrap ((j : Int) * x.size G) = (j : Int) * x.size G := IntWalk.i64_in _ (by omega)
          obtain ⟨A, hA⟩ : ∃ A, F + (k : Int) * G + (j : Int) * x.size G = A := ⟨_, rfl⟩
          have a0 : 0 ≤ A := by omega
          have a1 : A ≤ 4000000 := by omega
          have hw2 : IntKind.i64.wrap (F + (k : Int) * G + (j : Int) * x.size G) = A := by rw [hA]; exact IntWalk.i64_in _ (by omega)
          have hpos := Lib.hid (show (x.cell F G k j).pos = A from hA)
          have jl2 : (j : Int) < (x.flags.length : Int) := by omega
          have c1 : wr.cell? ⟨wo.heap.size, 1, none⟩ = some (.int .i64 (x.size G)) := c1
          clear hy hi hA
          rw [ea]
          rw [ea] at HC
          clear ea
          go_wp2_with fail
          go_big_quiet ((go_at_call 46; refine Calls.quiet_of (KB.out _)))
          generalize hW : wr.drewN _ = W2
          have b2 : Below wr.heap.size wr W2 := hW ▸ below_drewN wr _
          have HZ2 := Lib.hid (HZ.out.below b2)
          have HC2 := Lib.hid (HC.out.keep b2)
          have BB := Lib.hid (below_trans bb b2)
          clear hW b2 c1 cf KB e4 e5 hw1 hw2 HZ HC bb js
          cases y
          · have R := Lib.hid (HZ2.out.skip hcell.out (by rw [inB, hu.out]; rfl))
            go_wp2
            go_roundw
            case rel => exact ⟨j + 1, zs, by omega, by go_num, by omega, R, HC2, BB.out⟩
            case measure => simp [intOf]; omega
          · by_cases q1 : f ≤ A
            · by_cases q2 : A < t
              · have inn := Lib.hid (show inB f t (x.cell F G k j) = true from by rw [inB, hu.out, hpos.out, decide_eq_true q1, decide_eq_true q2]; rfl)
                obtain ⟨bo, bcap, eo, _⟩ := HZ2.out.1.at_
                subst eo
                have O2 := Lib.hid (HZ2.out.1.alloc (.cells #[.int .i64 A] 3))
                have B2 := Lib.hid (BB.out.alloc BB.out.size (.cells #[.int .i64 A] 3))
                have C2 := Lib.hid (HC2.out.alloc (.cells #[.int .i64 A] 3))
                go_wp2_with (first
                  | (at_builtin; (refine wpList_append_own_at _ rfl _ _ 36 rfl w.heap.size 3 i0 (.int .i64 0) 1 8 Try.underlying36 HI0.out.1 HI0.out.2.1 HI0.out.2.2.1 HI0.out.2.2.2 rfl (by decide) _ _ _ rfl O2.out ⟨W2.heap.size, 0, none⟩ 1 1 [.int .i64 A] rfl rfl ?c1 ?c2 ?c3 ?c4 ?c5 ?_))
                  | fail)
                case c1 => exact fun j u hj => by have := cell_one_new W2 (.int .i64 A) 3 j u hj; simpa using this
                case c2 => intro x hx; simp at hx; subst hx; rfl
                case c3 => unfold maxLen; omega
                case c4 => omega
                case c5 => exact B2.out.size
                intro v1 w1 hown1 hgrow1 _ _
                have b1 := Lib.hid (below_grown B2.out O2.out hgrow1)
                have cc := Lib.hid (C2.out.grown (by decide) O2.out hgrow1)
                have o1 := OwnI.snoc hown1
                have R := Lib.hid (HZ2.out.push hcell.out inn.out (by rw [hpos.out]; exact o1))
                rw [hpos.out] at R
                obtain ⟨bo1, cap1, e1, _⟩ := o1.at_
                subst e1
                clear hown1 hgrow1 o1 O2 B2 C2 HZ2 HC2 BB
                go_wp2
                go_roundw
                case rel => exact ⟨j + 1, zs ++ [A], by omega, by go_num, by rw [List.length_append, List.length_singleton]; omega, R, cc, b1.out⟩
                case measure => simp [intOf]; omega
              · have R := Lib.hid (HZ2.out.skip hcell.out (by rw [inB, hpos.out, decide_eq_false q2, Bool.and_false]))
                go_wp2
                go_roundw
                case rel => exact ⟨j + 1, zs, by omega, by go_num, by omega, R, HC2, BB.out⟩
                case measure => simp [intOf]; omega
            · have R := Lib.hid (HZ2.out.skip hcell.out (by rw [inB, hpos.out, decide_eq_false q1, Bool.and_false, Bool.false_and]))
              go_wp2
              go_roundw
              case rel => exact ⟨j + 1, zs, by omega, by go_num, by omega, R, HC2, BB.out⟩
              case measure => simp [intOf]; omega
        · obtain rfl : j = x.flags.length := by omega
          have R := Lib.hid (show StI w.heap.size wr _ zs f t (cellsP F G (pgs.take (k + 1))) from by
            have h := HZ.out
            rw [← Pg.cells_length F G k x, List.take_length, ← cellsP_take F G HX.out] at h
            exact h)
          go_wp2
          go_roundw
          case rel => exact ⟨k + 1, zs, by omega, by go_num, by omega, R, bb⟩
          case measure => simp [intOf]; omega
    · obtain rfl : k = N := by omega
      have D := Lib.hid (show OwnI wo w.heap.size _ (startsP F G pgs f t) from by
        have h := HY.out
        rw [← HN.out, List.take_length] at h
        have e := h.2
        rw [startsP, ← e]
        exact h.1)
      go_wp2
      go_ret
      exact ⟨_, rfl, D.out, bb⟩
end Go.Proofs.Ytinoeofimajpdaa

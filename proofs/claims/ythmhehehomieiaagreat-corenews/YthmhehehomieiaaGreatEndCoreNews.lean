/- The Go function tilthlaw13.CoreNews returns true for every input, and its arguments read afterwards as they read before: the given statement CoreNewsSaid, without further conditions. -/
import Derived.Test.YthmhehehomieiaaGreatJoinG
import Derived.Deep.RegionHeld3

/- The walks of CoreNone and CoreNews. -/
namespace Go.Proofs.YthmhehehomieiaaGreat
open Go.RowKit

theorem leaves_below (w : World) (k a b c v : Int) : Leaves w (fun w' => Below (doW w k a b c v).heap.size (doW w k a b c v) w') := fun _ h => ⟨(doW_boxes w k a b c v).1.keep h, (doW_boxes w k a b c v).2.keep h⟩
theorem doE_below {w : World} {k a b c v : Int} {w' : World} (h : DoE w (fun w' => Below (doW w k a b c v).heap.size (doW w k a b c v) w') w') : Below w.heap.size w w' := by
  obtain ⟨w4, h4, f⟩ := h
  have q := below_trans (doW_below w k a b c v) h4
  exact Below.frm q f q.size fun j hj e => by omega

/-- An entry by no core. -/
theorem do_none (k a b c v : Int) (h1 : 1 ≤ k) (h2 : k ≤ 10) (w : World) :
    Calls Tryz.prog 26 #[.pointer none, sgV k a b c v] w fun e w' => e = .returned (anV 1 false 0 0) ∧ Below w.heap.size w w' := by
  have hk : k = 1 ∨ k = 2 ∨ k = 3 ∨ k = 4 ∨ k = 5 ∨ k = 6 ∨ k = 7 ∨ k = 8 ∨ k = 9 ∨ k = 10 := by omega
  have s : ∀ {w1 w2 : World}, w1 = w2 → Below w1.heap.size w1 w2 := fun e => by subst e; exact Below.refl _ _
  rcases hk with rfl | rfl | rfl | rfl | rfl | rfl | rfl | rfl | rfl | rfl
  · exact (do_Make a b c v 1 w _ (leaves_below w 1 a b c v) ((make_none a b c _).mono fun _ _ ⟨h1, h2⟩ => ⟨h1, s h2⟩)).mono fun _ _ ⟨h1, h2⟩ => ⟨h1, doE_below h2⟩
  · exact (do_Get a b c v 1 w _ (leaves_below w 2 a b c v) ((get_wrong a b c 1 (by omega) _ (wrong_none _ _)).mono fun _ _ ⟨h1, h2⟩ => ⟨h1, h2⟩)).mono fun _ _ ⟨h1, h2⟩ => ⟨h1, doE_below h2⟩
  · exact (do_Set a b c v 1 w _ (leaves_below w 3 a b c v) ((set_wrong a b c 1 (by omega) _ (wrong_none _ _)).mono fun _ _ ⟨h1, h2⟩ => ⟨h1, h2⟩)).mono fun _ _ ⟨h1, h2⟩ => ⟨h1, doE_below h2⟩
  · exact (do_Read a b c v 1 0 w _ (leaves_below w 4 a b c v) ((read_wrong a b 1 (by omega) _ (wrong_none _ _)).mono fun _ _ ⟨h1, h2⟩ => ⟨h1, h2⟩)).mono fun _ _ ⟨h1, h2⟩ => ⟨h1, doE_below h2⟩
  · exact (do_Write a b c v 1 w _ (leaves_below w 5 a b c v) ((write_wrong a b v 1 (by omega) _ (wrong_none _ _)).mono fun _ _ ⟨h1, h2⟩ => ⟨h1, h2⟩)).mono fun _ _ ⟨h1, h2⟩ => ⟨h1, doE_below h2⟩
  · exact (do_Clear a b c v 1 w _ (leaves_below w 6 a b c v) ((clear_no a 1 (by omega) _ (noH_none _ _)).mono fun _ _ ⟨h1, h2⟩ => ⟨h1, s h2⟩)).mono fun _ _ ⟨h1, h2⟩ => ⟨h1, doE_below h2⟩
  · exact (do_Copy a b c v 1 w _ (leaves_below w 7 a b c v) ((coCopy_no a b 1 (by omega) _ (noH_none _ _)).mono fun _ _ ⟨h1, h2⟩ => ⟨h1, s h2⟩)).mono fun _ _ ⟨h1, h2⟩ => ⟨h1, doE_below h2⟩
  · exact (do_Same a b c v 1 false w _ (leaves_below w 8 a b c v) ((same_no a b 1 (by omega) _ (noH_none _ _)).mono fun _ _ ⟨h1, h2⟩ => ⟨h1, s h2⟩)).mono fun _ _ ⟨h1, h2⟩ => ⟨h1, doE_below h2⟩
  · exact (do_Nil a b c v 1 false w _ (leaves_below w 9 a b c v) ((nil_no a 1 (by omega) _ (noH_none _ _)).mono fun _ _ ⟨h1, h2⟩ => ⟨h1, s h2⟩)).mono fun _ _ ⟨h1, h2⟩ => ⟨h1, doE_below h2⟩
  · exact (do_Shape a b c v 1 0 0 (by omega) (by omega) w _ (leaves_below w 10 a b c v) ((shape_wrong a 1 _ (wrong_none _ _)).mono fun _ _ ⟨h1, h2⟩ => ⟨h1, h2⟩)).mono fun _ _ ⟨h1, h2⟩ => ⟨h1, doE_below h2⟩

set_option maxHeartbeats 4000000 in
set_option maxRecDepth 100000 in
theorem coreNone_walk (k a b c v x : Int) (w : World) : Calls Tryz.prog 6 #[sgV k a b c v, .int .i64 x] w fun e w' => e = .returned (.bool true) ∧ Below w.heap.size w w' := by
  have key : ∀ w1 : World, Below w.heap.size w w1 → w1.heap.size = w1.heap.size := fun _ _ => rfl
  clear key
  by_cases h1 : 1 ≤ k
  · by_cases h2 : k ≤ 10
    · have HD := Lib.hid (fun w => do_none k a b c v h1 h2 w)
      go_enter Tryz.func6, Tryz.ntmps6
      go_wp2_with fail
      refine (mark_none _ _).mono ?_
      rintro e w1 ⟨rfl, rfl⟩
      go_wp2_with fail
      refine (note_none _ _).mono ?_
      rintro e w1 ⟨rfl, rfl⟩
      go_wp2_with fail
      refine (HD.out _).mono ?_
      rintro e w1 ⟨rfl, b1⟩
      have B1 := Lib.hid (below_alloc_trans _ b1)
      clear b1 HD
      go_wp2_with fail
      refine (awake13_walk _).mono ?_
      rintro e w2 ⟨rfl, b2⟩
      have B2 := Lib.hid (below_trans B1.out b2)
      clear b2 B1
      go_wp2_with fail
      refine (now_of x _ (leaving_none x _)).mono ?_
      rintro e w3 ⟨rfl, b3⟩
      have B3 := Lib.hid (below_trans B2.out b3)
      clear b3 B2
      go_wp2_with fail
      refine (move_of x _ (leaving_none x _)).mono ?_
      rintro e w4 ⟨rfl, b4⟩
      have B4 := Lib.hid (below_trans B3.out b4)
      clear b4 B3
      go_wp2_with fail
      refine (stats_none _).mono ?_
      rintro e w5 ⟨rfl, b5⟩
      have B5 := Lib.hid (below_trans B4.out b5)
      clear b5 B4
      go_wp2
      go_ret
      exact ⟨rfl, B5.out⟩
    · go_enter Tryz.func6, Tryz.ntmps6
      go_wp2_with fail
      refine (mark_none _ _).mono ?_
      rintro e w1 ⟨rfl, rfl⟩
      go_wp2_with fail
      refine (note_none _ _).mono ?_
      rintro e w1 ⟨rfl, rfl⟩
      have B1 := Lib.hid ((Below.refl _ w).alloc (Nat.le_refl _) (stB k a b c v))
      go_wp2_with fail
      refine (awake13_walk _).mono ?_
      rintro e w2 ⟨rfl, b2⟩
      have B2 := Lib.hid (below_trans B1.out b2)
      clear b2 B1
      go_wp2_with fail
      refine (now_of x _ (leaving_none x _)).mono ?_
      rintro e w3 ⟨rfl, b3⟩
      have B3 := Lib.hid (below_trans B2.out b3)
      clear b3 B2
      go_wp2_with fail
      refine (move_of x _ (leaving_none x _)).mono ?_
      rintro e w4 ⟨rfl, b4⟩
      have B4 := Lib.hid (below_trans B3.out b4)
      clear b4 B3
      go_wp2_with fail
      refine (stats_none _).mono ?_
      rintro e w5 ⟨rfl, b5⟩
      have B5 := Lib.hid (below_trans B4.out b5)
      clear b5 B4
      go_wp2
      go_ret
      exact ⟨rfl, B5.out⟩
  · go_enter Tryz.func6, Tryz.ntmps6
    go_wp2_with fail
    refine (mark_none _ _).mono ?_
    rintro e w1 ⟨rfl, rfl⟩
    go_wp2_with fail
    refine (note_none _ _).mono ?_
    rintro e w1 ⟨rfl, rfl⟩
    have B1 := Lib.hid ((Below.refl _ w).alloc (Nat.le_refl _) (stB k a b c v))
    go_wp2_with fail
    refine (awake13_walk _).mono ?_
    rintro e w2 ⟨rfl, b2⟩
    have B2 := Lib.hid (below_trans B1.out b2)
    clear b2 B1
    go_wp2_with fail
    refine (now_of x _ (leaving_none x _)).mono ?_
    rintro e w3 ⟨rfl, b3⟩
    have B3 := Lib.hid (below_trans B2.out b3)
    clear b3 B2
    go_wp2_with fail
    refine (move_of x _ (leaving_none x _)).mono ?_
    rintro e w4 ⟨rfl, b4⟩
    have B4 := Lib.hid (below_trans B3.out b4)
    clear b4 B3
    go_wp2_with fail
    refine (stats_none _).mono ?_
    rintro e w5 ⟨rfl, b5⟩
    have B5 := Lib.hid (below_trans B4.out b5)
    clear b5 B4
    go_wp2
    go_ret
    exact ⟨rfl, B5.out⟩

/-- What the walk of CoreNews reads of a new core. -/
def NewsR (c : Cfg) (b t a : Nat) (w : World) : Prop :=
  (w.cell? ⟨b, 20, none⟩ = some (.int .i64 0) ∧ w.cell? ⟨b, 21, none⟩ = some (.bool false) ∧ w.cell? ⟨b, 18, none⟩ = some (htP t) ∧ w.cell? ⟨b, 13, none⟩ = some (arP a)) ∧ b < w.heap.size ∧
  (∃ tg, IsHt w t tg (zeros c.ha)) ∧ ∃ ab q, IsAr w a ab (List.replicate c.words.toNat 0) q
theorem NewsR.keep {c : Cfg} {b t a : Nat} {w w' : World} (h : NewsR c b t a w) (f : Below w.heap.size w w') : NewsR c b t a w' := by
  obtain ⟨⟨h1, h2, h3, h4⟩, lt, ⟨tg, ht⟩, ab, q, ha⟩ := h
  exact ⟨⟨(f.cell (p := ⟨b, 20, none⟩) lt).trans h1, (f.cell (p := ⟨b, 21, none⟩) lt).trans h2, (f.cell (p := ⟨b, 18, none⟩) lt).trans h3, (f.cell (p := ⟨b, 13, none⟩) lt).trans h4⟩, Nat.lt_of_lt_of_le lt f.size, ⟨tg, ht.keep f⟩, ab, q, ha.keep f⟩
theorem newsR_of {c : Cfg} {pt : Pts} {w : World} {b : Nat} {S : Nat → Prop} (hC : Cr w b S (Co.fresh c pt)) : ∃ t a, NewsR c b t a w := by
  obtain ⟨P, own, h0, rfl, _⟩ := hC
  obtain ⟨ab, ha, _⟩ := h0.prt 1
  obtain ⟨tg, ht, _⟩ := h0.prt 6
  exact ⟨P.t, P.a, ⟨h0.cell 20, h0.cell 21, h0.cell 18, h0.cell 13⟩, (h0.prt 0).1.lt, ⟨tg, ht⟩, ab, ha⟩

set_option maxHeartbeats 8000000 in
set_option maxRecDepth 100000 in
theorem coreNews_walk (c : Cfg) (w : World) : Calls Tryz.prog 3 #[c.v] w fun e w' => e = .returned (.bool true) ∧ Below w.heap.size w w' := by
  have HK := fun w => check_any c.ha c.nu c.ps c.pz c.cd c.bf c.st c.tn c.lg c.mi c.ma c.na c.ja w
  cases hm : mayB c.ha c.nu c.ps c.pz c.cd c.bf c.st c.tn c.lg c.mi c.ma c.na c.ja
  · rw [hm] at HK
    have HK := Lib.hid HK
    have HN := Lib.hid (fun w => coNew_no c w hm)
    clear hm
    go_enter Tryz.func3, Tryz.ntmps3
    go_wp2_with fail
    refine (HK.out _).mono ?_
    rintro e w1 ⟨rfl, b1⟩
    have kk := Lib.hid ((Blk.new w _ _).keep b1)
    have B1 := Lib.hid (below_alloc_trans _ b1)
    clear b1 HK
    obtain ⟨q0, q1, q2, q3, q4, q5, q6, q7, q8, q9, q10, q11, q12⟩ := kk.out.thirteen
    go_wp2_with fail
    refine (HN.out _).mono ?_
    rintro e w2 ⟨rfl, b2⟩
    have B2 := Lib.hid (below_trans B1.out b2)
    clear b2 B1 q0 q1 q2 q3 q4 q5 q6 q7 q8 q9 q10 q11 q12 kk HN
    go_wp2_with fail
    refine (awake13_walk _).mono ?_
    rintro e w3 ⟨rfl, b3⟩
    have B3 := Lib.hid (below_trans B2.out b3)
    clear b3 B2
    go_wp2
    go_ret
    exact ⟨rfl, B3.out⟩
  · have M := (mayB_iff ..).1 hm
    rw [hm] at HK
    have HK := Lib.hid HK
    have HN := Lib.hid (fun w => coNew_yes c w M)
    have HW := Lib.hid (fun w => words_any c.ha c.nu c.ps c.pz c.cd c.bf c.st c.tn c.lg c.mi c.ma c.na c.ja w M)
    have hw := M.words
    have hn0 := M.nu0
    have hn1 := M.nu1
    have hh := M.ha0
    have hwr : IntKind.i64.wrap (c.ps * c.pz) = c.ps * c.pz := wrap_in _ (by omega) (by omega)
    have WR := Lib.hid hwr
    have LA : Hid (((zeros c.ha).length : Int) = c.ha) := Lib.hid (by rw [zeros_length]; omega)
    have LW : Hid (((List.replicate c.words.toNat (0 : Int)).length : Int) = 1 + 2 * c.nu + c.ps * c.pz) := Lib.hid (by rw [List.length_replicate]; unfold Cfg.words; omega)
    clear hm M hw hn0 hn1 hh hwr
    by_cases hb : 300 < c.nu
    · clear HN HW WR LA LW
      go_enter Tryz.func3, Tryz.ntmps3
      go_wp2_with fail
      refine (HK.out _).mono ?_
      rintro e w1 ⟨rfl, b1⟩
      have kk := Lib.hid ((Blk.new w _ _).keep b1)
      have B1 := Lib.hid (below_alloc_trans _ b1)
      clear b1 HK
      obtain ⟨q0, q1, q2, q3, q4, q5, q6, q7, q8, q9, q10, q11, q12⟩ := kk.out.thirteen
      go_wp2_with fail
      refine (awake13_walk _).mono ?_
      rintro e w3 ⟨rfl, b3⟩
      have B3 := Lib.hid (below_trans B1.out b3)
      clear b3 B1
      go_wp2
      go_ret
      exact ⟨rfl, B3.out⟩
    · go_enter Tryz.func3, Tryz.ntmps3
      go_wp2_with fail
      refine (HK.out _).mono ?_
      rintro e w1 ⟨rfl, b1⟩
      have kk := Lib.hid ((Blk.new w _ _).keep b1)
      have B1 := Lib.hid (below_alloc_trans _ b1)
      clear b1 HK
      obtain ⟨q0, q1, q2, q3, q4, q5, q6, q7, q8, q9, q10, q11, q12⟩ := kk.out.thirteen
      go_wp2_with fail
      refine (HN.out _).mono ?_
      rintro e w2 ⟨b, S, pt, rfl, hC, b2, ho⟩
      have B2 := Lib.hid (below_trans B1.out b2)
      have K2 := Lib.hid (kk.out.keep b2)
      obtain ⟨t, a, hR⟩ := newsR_of hC
      have R2 := Lib.hid hR
      have HS := stats_any hC (by rw [show (Co.fresh c pt).used = 0 from (rep_fresh (c := c) (pt := pt) (by obtain ⟨_, _, h0, _, _⟩ := hC; exact h0.may)).calm.used]; omega) (by rw [show (Co.fresh c pt).used = 0 from (rep_fresh (c := c) (pt := pt) (by obtain ⟨_, _, h0, _, _⟩ := hC; exact h0.may)).calm.used]; omega)
      rw [show (Co.fresh c pt).used = 0 from (rep_fresh (c := c) (pt := pt) (by obtain ⟨_, _, h0, _, _⟩ := hC; exact h0.may)).calm.used] at HS
      have HS := Lib.hid (show Calls Tryz.prog 20 #[ptr b] w2 fun e w' => e = .returned (stV8 0 0 0 0 0 0 0 (c.ps * c.pz)) ∧ Below w2.heap.size w2 w' from HS.mono fun _ _ ⟨h1, h2⟩ => ⟨h1.trans (by show Ending.returned (stV8 0 0 0 0 0 (0 + 0) 0 (c.ps * c.pz - 0)) = _; rw [Int.sub_zero]; rfl), h2⟩)
      clear b2 B1 kk q0 q1 q2 q3 q4 q5 q6 q7 q8 q9 q10 q11 q12 hC hR ho HN
      go_wp2_with fail
      refine HS.out.mono ?_
      rintro e w3 ⟨rfl, b3⟩
      have B3 := Lib.hid (below_trans B2.out b3)
      have K3 := Lib.hid (K2.out.keep b3)
      have R3 := Lib.hid (R2.out.keep b3)
      clear b3 B2 K2 R2 HS
      go_wp2_with fail
      have B4 := B3.out.alloc B3.out.size (stO8 0 0 0 0 0 0 0 (c.ps * c.pz))
      have K4 := K3.out.alloc (stO8 0 0 0 0 0 0 0 (c.ps * c.pz))
      have X4 := Blk.new w3 (stL8 0 0 0 0 0 0 0 (c.ps * c.pz)) 31
      have R4 := R3.out.keep ((Below.refl _ w3).alloc (Nat.le_refl _) (stO8 0 0 0 0 0 0 0 (c.ps * c.pz)))
      clear B3 K3 R3
      generalize hW : w3.alloc (stO8 0 0 0 0 0 0 0 (c.ps * c.pz)) = w4 at *
      have hg : w3.heap.size = w3.heap.size := rfl
      generalize w3.heap.size = g at *
      clear hW hg
      have B4 := B4.drew
      have K4 := K4.drew
      have X4 := X4.drew
      have R4 := R4.keep (below_drew w4)
      have hwr := WR.out
      clear WR
      obtain ⟨N, NN⟩ : ∃ N, Hid ((zeros c.ha).length = N) := ⟨_, Lib.hid rfl⟩
      have hla : (N : Int) = c.ha := by rw [← NN.out]; exact LA.out
      go_region_held3 (fun w' => w'.cell? ⟨w.heap.size, 0, none⟩ = some (.int .i64 c.ha) ∧ w'.cell? ⟨w.heap.size, 1, none⟩ = some (.int .i64 c.nu) ∧ w'.cell? ⟨w.heap.size, 2, none⟩ = some (.int .i64 c.ps) ∧ w'.cell? ⟨w.heap.size, 3, none⟩ = some (.int .i64 c.pz) ∧ w'.cell? ⟨w.heap.size, 4, none⟩ = some (.int .i64 c.cd) ∧ w'.cell? ⟨w.heap.size, 5, none⟩ = some (.int .i64 c.bf) ∧ w'.cell? ⟨w.heap.size, 6, none⟩ = some (.int .i64 c.st) ∧ w'.cell? ⟨w.heap.size, 7, none⟩ = some (.int .i64 c.tn) ∧ w'.cell? ⟨w.heap.size, 8, none⟩ = some (.int .i64 c.lg) ∧ w'.cell? ⟨w.heap.size, 9, none⟩ = some (.int .i64 c.mi) ∧ w'.cell? ⟨w.heap.size, 10, none⟩ = some (.int .i64 c.ma) ∧ w'.cell? ⟨w.heap.size, 11, none⟩ = some (.int .i64 c.na) ∧ w'.cell? ⟨w.heap.size, 12, none⟩ = some (.int .i64 c.ja) ∧ w'.cell? ⟨g, 0, none⟩ = some (.int .i64 0) ∧ w'.cell? ⟨g, 1, none⟩ = some (.int .i64 0) ∧ w'.cell? ⟨g, 2, none⟩ = some (.int .i64 0) ∧ w'.cell? ⟨g, 3, none⟩ = some (.int .i64 0) ∧ w'.cell? ⟨g, 4, none⟩ = some (.int .i64 0) ∧ w'.cell? ⟨g, 5, none⟩ = some (.int .i64 0) ∧ w'.cell? ⟨g, 6, none⟩ = some (.int .i64 0) ∧ w'.cell? ⟨g, 7, none⟩ = some (.int .i64 (c.ps * c.pz)) ∧ w'.cell? ⟨b, 20, none⟩ = some (.int .i64 0) ∧ w'.cell? ⟨b, 21, none⟩ = some (.bool false) ∧ w'.cell? ⟨b, 18, none⟩ = some (htP t) ∧ w'.cell? ⟨b, 13, none⟩ = some (arP a)) (exact ⟨K4.cell 0, K4.cell 1, K4.cell 2, K4.cell 3, K4.cell 4, K4.cell 5, K4.cell 6, K4.cell 7, K4.cell 8, K4.cell 9, K4.cell 10, K4.cell 11, K4.cell 12, X4.cell 0, X4.cell 1, X4.cell 2, X4.cell 3, X4.cell 4, X4.cell 5, X4.cell 6, X4.cell 7, R4.1.1, R4.1.2.1, R4.1.2.2.1, R4.1.2.2.2⟩) (first
        | (go_at_call 18; refine (awake13_walk _).mono ?_; rintro e v1 ⟨rfl, b2⟩; have K4 := K4.keep b2; have X4 := X4.keep b2; have R4 := R4.keep b2; have B4 := below_trans B4 b2; clear b2)
        | (go_at_call 21; have q := tbAll_any _ _ _ _ R4.2.2.1.choose_spec; rw [NN.out] at q; refine q.mono ?_; clear q; rintro e v1 ⟨A', c', rfl, _, b2, _⟩; have K4 := K4.keep b2; have X4 := X4.keep b2; have R4 := R4.keep b2; have B4 := below_trans B4 b2; clear b2)
        | (go_at_call 22; obtain ⟨ab, q, ha⟩ := R4.2.2.2; refine (len_any _ _ _ _ _ ha).mono ?_; rw [LW.out]; rintro e v1 ⟨rfl, rfl⟩; clear ha)
        | (go_at_call 23; refine (HW.out _).mono ?_; rintro e v1 ⟨rfl, b2⟩; have K4 := K4.keep b2; have X4 := X4.keep b2; have R4 := R4.keep b2; have B4 := below_trans B4 b2; clear b2))
      all_goals
        go_wp2
        go_ret
        exact ⟨by simp, B4⟩
end Go.Proofs.YthmhehehomieiaaGreat

/- The Go function tilthlaw13.CoreNews returns true for every input, and its arguments read afterwards as they read before: the given statement CoreNewsSaid, without further conditions. -/
namespace Go.Proofs.YthmhehehomieiaaGreat
open Go.ChangeShapes Go.WideShapes Go.ChangeAt Go.RowKit Go.Deep

set_option maxRecDepth 100000 in
theorem coreNews_lifted (os : Os) (started : os.Started) (H : Type) (enc : TypeId × Value → H) :
    ReturnsInHanded {} Tryz.checked os 3 .any (Rows.coreNewsSpec.pre6 enc Tryz.prog Tryz.f3 Rows.coreNewsRow.domain false) (Rows.coreNewsSpec.post enc Tryz.prog Tryz.f3 false true false false) := by
  refine returnsInHanded_of_change (C := Tryz.checked) own started (by kernel_rfl) Tryz.func3
    (ChangeSpec.witness6 (enc := enc) (C := Tryz.checked) false ⟨#[], #[.agg #[.int .i64 0, .int .i64 0, .int .i64 0, .int .i64 0, .int .i64 0, .int .i64 0, .int .i64 0, .int .i64 0, .int .i64 0, .int .i64 0, .int .i64 0, .int .i64 0, .int .i64 0]], []⟩ 8 (by kernel_rfl) (by kernel_rfl) (by kernel_rfl) (by kernel_rfl)) ?_
  intro W base args ds gs before hval0 hW _ _
  have hval : ∀ (j : Nat) t v, Tryz.f3.params[j]? = some t → args[j]? = some v → Value.okWide Tryz.prog W .any base t v := hval0
  have hW0 := hW
  obtain ⟨p, q, hA0, _, _, _, _⟩ := hW
  have hA : DataW.TrodAll enc Tryz.prog W 0 (fun _ => true) true Tryz.f3.params.toList args.toList ds p := hA0
  rw [Tryz.params3] at hA hval
  obtain ⟨v0, vs0, d0, ds0, pl0, ql0, hargs, rfl, rfl, h0, r0⟩ := trodAll_cons hA
  obtain ⟨rfl, rfl, rfl⟩ := trodAll_nil r0
  obtain rfl : args = #[v0] := by cases args; simp_all
  obtain ⟨ha0, nu0, ps0, pz0, cd0, bf0, st0, tn0, lg0, mi0, ma0, na0, ja0, rfl⟩ := open_conf (hval 0 23 v0 rfl rfl) h0
  exact (coreNews_walk (Cfg.mk ha0 nu0 ps0 pz0 cd0 bf0 st0 tn0 lg0 mi0 ma0 na0 ja0) W).mono fun e W' ⟨he, bel⟩ => ⟨_, he, law_post laidOut (by kernel_rfl) (by kernel_rfl) Tryz.underlying4 rfl
    (fun ds hds => by rw [Tryz.params3] at hds; match ds, hds with | [_], _ => rfl) hW0 bel⟩

theorem coreNews_holds : Rows.CoreNewsSaid :=
  OpenClaim.holds_of_wide 3 Tryz.f3 rfl rfl rfl rfl rfl rfl rfl ⟨rfl, rfl, rfl, rfl, rfl⟩ rfl rfl rfl rfl rfl (by kernel_rfl) Tryz.func3 (by kernel_rfl)
    (of_decide_eq_true (by kernel_rfl)) (by unfold Func.isWrapper; first | (rw [if_pos (by decide +kernel)]; kernel_rfl) | (rw [if_neg (by decide +kernel)]; exact ⟨rfl, rfl⟩))
    (fun os started H enc _ => coreNews_lifted os started H enc)
#print axioms coreNews_holds
end Go.Proofs.YthmhehehomieiaaGreat

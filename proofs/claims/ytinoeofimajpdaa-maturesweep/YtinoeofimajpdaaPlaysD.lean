/- The walk of MaturePlays. -/
import Derived.Test.YtinoeofimajpdaaPlaysC
namespace Go.Proofs.Ytinoeofimajpdaa
open Go.RowKit

/-- A slice of acts (two numbers each) as it came in: nil let in. -/
def RdA (w : World) (A : Option Addr) (n : Nat) : Prop :=
  ∀ i, i < n → ∃ ad x0 x1, A = some ad ∧ ad.block < w.heap.size ∧ w.cell? (ad.add (i * 2)) = some (.int .i64 x0) ∧ w.cell? ⟨(ad.add (i * 2)).block, (ad.add (i * 2)).off + 1, none⟩ = some (.int .i64 x1) ∧ -9223372036854775808 ≤ x1 ∧ x1 ≤ 9223372036854775807

theorem RdA.at_ {w w' : World} {A : Option Addr} {n : Nat} (h : RdA w A n) (hb : Below w.heap.size w w') {i : Nat} (hi : i < n) :
    ∃ ad x0 x1, A = some ad ∧ w'.cell? (ad.add (i * 2)) = some (.int .i64 x0) ∧ w'.cell? ⟨(ad.add (i * 2)).block, (ad.add (i * 2)).off + 1, none⟩ = some (.int .i64 x1) ∧ -9223372036854775808 ≤ x1 ∧ x1 ≤ 9223372036854775807 := by
  obtain ⟨ad, x0, x1, e, hl, c0, c1, r⟩ := h i hi
  have eb : (ad.add (i * 2)).block = ad.block := by unfold Addr.add; split <;> rfl
  have k0 : w'.cell? (ad.add (i * 2)) = w.cell? (ad.add (i * 2)) := hb.cell (p := ad.add (i * 2)) (by rw [eb]; exact hl)
  have k : w'.cell? ⟨(ad.add (i * 2)).block, (ad.add (i * 2)).off + 1, none⟩ = w.cell? ⟨(ad.add (i * 2)).block, (ad.add (i * 2)).off + 1, none⟩ := hb.cell (p := ⟨(ad.add (i * 2)).block, (ad.add (i * 2)).off + 1, none⟩) (by rw [eb]; exact hl)
  exact ⟨ad, x0, x1, e, k0.trans c0, k.trans c1, r⟩

def noPr : Nat → Prop := fun _ => False
def actPr (c : Nat) : Nat → Prop := fun k => noPr k ∨ k = c

theorem Blk.two {w : World} {b : Nat} {t : TypeId} {v0 v1 : Value} (h : Blk w b #[v0, v1] t) : w.cell? ⟨b, 0, none⟩ = some v0 ∧ w.cell? ⟨b, 1, none⟩ = some v1 := ⟨h.cell 0, h.cell 1⟩

theorem tmod_in (x : Int) (l : Nat) (hl : 0 < l) : -(l : Int) < x.tmod l ∧ x.tmod l < l := by
  have h1 := Int.tmod_lt_of_pos x (show (0 : Int) < l by omega)
  refine ⟨?_, h1⟩
  rcases Int.lt_or_le x 0 with h | h
  · obtain ⟨y, rfl⟩ : ∃ y, x = -y := ⟨-x, by omega⟩
    rw [Int.neg_tmod]
    have := Int.tmod_lt_of_pos y (show (0 : Int) < l by omega)
    omega
  · have := Int.tmod_nonneg (l : Int) h
    omega

theorem give_yes {F G : Int} {ps ps' : List Bool} {pgs pgs' : List Pg} {y f t : Int} {ok : Bool} (h : GiveA F G ps pgs y ok pgs' ps') (hy : y ∈ startsP F G pgs f t) : ok = true := by
  rcases h with ⟨h, _⟩ | ⟨_, _, _, _, _, _, _, h, _⟩ | ⟨_, _, _, _, h, _⟩
  · obtain ⟨c, hc, rfl⟩ := List.mem_map.1 hy
    obtain ⟨hc, hb⟩ := List.mem_filter.1 hc
    simp only [inB, Bool.and_eq_true] at hb
    rw [List.find?_eq_none] at h
    exact absurd (by simp [hitB, hb.1.1]) (h c hc)
  · exact h
  · exact h

theorem starts_in {F G f t y : Int} {pgs : List Pg} (hy : y ∈ startsP F G pgs f t) : f ≤ y ∧ y < t := by
  obtain ⟨c, hc, rfl⟩ := List.mem_map.1 hy
  obtain ⟨_, hb⟩ := List.mem_filter.1 hc
  simp only [inB, Bool.and_eq_true, decide_eq_true_eq] at hb
  exact ⟨hb.1.2, hb.2⟩

set_option maxHeartbeats 16000000 in
set_option maxRecDepth 100000 in
theorem maturePlays_walk (M : MatSpec) (f p g : Int) (A : Option Addr) (n c : Nat) (w : World) (rd : RdA w A n) (hn : n ≤ c) (hc : c ≤ maxLen) :
    Calls Try.prog 3 #[.int .i64 f, .int .i64 p, .int .i64 g, .slice A n c] w fun e w' => e = .returned (.bool true) ∧ Below w.heap.size w w' := by
  have nm : n ≤ 9223372036854775807 := by simp only [maxLen] at hc; omega
  have RD := Lib.hid rd
  clear rd hc hn
  go_enter Try.func3, Try.ntmps3
  go_wp2_with fail
  refine (M.new f p g w).mono ?_
  rintro e w1 ⟨b, S, rfl, h1, b1, s1⟩
  go_wp2_with fail
  refine (pNew_any f p g w1).mono ?_
  rintro e w2 ⟨rfl, h2, b2⟩
  obtain ⟨F, hF⟩ : ∃ F, cutI f 0 1048576 = F := ⟨_, rfl⟩
  obtain ⟨G, hG⟩ : ∃ G, cutI g 1 256 = G := ⟨_, rfl⟩
  have HS := Lib.hid (show Half M w w2 w1.heap.size (w1.heap.size + 1) b F G noPr (List.replicate (cutI p 0 64).toNat .free) (List.replicate (cutI p 0 64).toNat false) (List.replicate (cutI p 0 64).toNat .free) (List.replicate (cutI p 0 64).toNat false) from by
    rw [hF, hG] at h1 h2
    refine ⟨S, _, h2, M.keep h1 b2, fun k hk hr => ?_, s1, fun k hk => ?_, b1.trans (b2.mono b1.size), fun k hk => hk.elim⟩
    · have := M.lt h1 k hk
      rcases hr with e | e | e
      · omega
      · omega
      · cases e
    · have := b1.size
      rcases hk with e | e | e
      · omega
      · omega
      · cases e)
  clear h1 h2 b1 b2 s1 hF hG
  generalize w1.heap.size = a at HS ⊢
  generalize List.replicate (cutI p 0 64).toNat Pg.free = pg0 at HS
  generalize List.replicate (cutI p 0 64).toNat false = ps0 at HS
  unfold spP
  go_wp2_with fail
  go_loopw [11] (fun s11 wr => ∃ (i : Nat) (pgs : List Pg) (ps : List Bool), i ≤ n ∧ i ≤ 60 ∧ s11 = .int .i64 i ∧ Hid (Half M w wr a (a + 1) b F G noPr pgs ps pgs ps)) (fun s11 _ => 60 - (intOf s11).toNat)
  case atStart => exact ⟨0, pg0, ps0, Nat.zero_le _, by omega, rfl, HS⟩
  case round =>
    clear HS
    obtain ⟨i, pgs, ps, hin, hi6, rfl, HS⟩ := hrel
    by_cases ilt : i < n ∧ i < 60
    · obtain ⟨il, i6⟩ := ilt
      obtain ⟨ad, x0, x1, rfl, r0, r1, x2, x3⟩ := RD.out.at_ HS.out.below il
      have H1 := Lib.hid (show Half M w (wr.alloc (.cells #[.int .i64 x0, .int .i64 x1] 28)) a (a + 1) b F G (actPr wr.heap.size) pgs ps pgs ps from
        HS.out.more ((Below.refl _ _).alloc (Nat.le_refl _) _) (Nat.le_refl _) (by simp))
      have K1 := Lib.hid (Blk.new wr #[.int .i64 x0, .int .i64 x1] 28)
      clear HS
      by_cases a0 : x0 = 0
      · subst a0
        go_wp2_with fail
        refine (mTake H1.out x1 x2 x3).mono ?_
        rintro e v1 ⟨u1, pm1, rfl, t1, h1, k1⟩
        have B1 : Blk v1 wr.heap.size _ _ := (k1 wr.heap.size (Or.inr rfl)).trans K1.out
        obtain ⟨y0, y1⟩ := B1.two
        obtain ⟨ux, uy, hu⟩ := t1.form
        subst hu
        have H2 := Lib.hid h1
        have T1 := Lib.hid t1
        clear h1 k1 t1
        go_wp2_with fail
        refine (rTake H2.out x1 x3).mono ?_
        rintro e v2 ⟨u2, pm2, rfl, t2, h2, k2⟩
        have B2 : Blk v2 wr.heap.size _ _ := (k2 wr.heap.size (Or.inr rfl)).trans B1
        obtain ⟨rfl, rfl⟩ := t2.one T1.out
        clear y0 y1
        obtain ⟨y0, y1⟩ := B2.two
        have H3 := Lib.hid h2
        clear h2 k2 t2 T1 H2
        go_wp2_with fail
        refine (hAlike H3.out x1 x2 x3).mono ?_
        rintro e v3 ⟨rfl, b3⟩
        have H4 := Lib.hid ((H3.out.keep b3).less (Pr' := noPr) fun k hk => hk.elim)
        go_wp2
        go_roundw
        case rel => exact ⟨i + 1, _, _, by omega, by omega, by go_num, H4⟩
        case measure => simp [intOf]; omega
      · by_cases a1 : x0 = 1
        · subst a1
          have WF1 := Lib.hid H1.out.wf
          have hh := H1.out.keep (below_drewN _ 1)
          have kk := K1.out.keep (below_drewN _ 1)
          obtain ⟨y0, y1⟩ := K1.out.two
          go_wp2_with fail
          clear y0 y1
          go_region_held3 (fun w' => w'.cell? ⟨wr.heap.size, 1, none⟩ = some (.int .i64 x1)) (exact kk.two.2)
            (first
            | (go_at_call 12; refine (mGive hh x1 x2 x3).mono ?_; rintro e v1 ⟨ok1, pm1, sm1, rfl, t1, hh, k1⟩; have kk : Blk v1 wr.heap.size #[.int .i64 1, .int .i64 x1] 28 := (k1 wr.heap.size (Or.inr rfl)).trans kk; clear k1)
            | (go_at_call 13; refine (rGive hh x1).mono ?_; rintro e v2 ⟨ok2, pm2, sm2, rfl, t2, hh, k2⟩; have kk : Blk v2 wr.heap.size #[.int .i64 1, .int .i64 x1] 28 := (k2 wr.heap.size (Or.inr rfl)).trans kk; clear k2))
          all_goals
            obtain ⟨eo, rfl, rfl⟩ := t2.one WF1.out.2.2.1 WF1.out.1 t1
            subst eo
            have H3 := Lib.hid hh
            clear t1 t2 hh
            obtain ⟨y0, y1⟩ := kk.two
            cases ok2
            all_goals
              go_wp2_with fail
              refine (hAlike H3.out x1 x2 x3).mono ?_
              rintro e v9 ⟨rfl, b9⟩
              have H9 := Lib.hid ((H3.out.keep b9).less (Pr' := noPr) fun k hk => hk.elim)
              go_wp2
              go_roundw
              case rel => exact ⟨i + 1, _, _, by omega, by omega, by go_num, H9⟩
              case measure => simp [intOf]; omega
        · by_cases a2 : x0 = 2
          · subst a2
            go_wp2_with fail
            refine (mPend H1.out).mono ?_
            rintro e v1 ⟨rfl, h1, k1⟩
            have B1 : Blk v1 wr.heap.size _ _ := (k1 wr.heap.size (Or.inr rfl)).trans K1.out
            have H2 := Lib.hid h1
            clear h1 k1
            go_wp2_with fail
            refine (rPend H2.out).mono ?_
            rintro e v2 ⟨rfl, h2, k2⟩
            have B2 : Blk v2 wr.heap.size _ _ := (k2 wr.heap.size (Or.inr rfl)).trans B1
            obtain ⟨y0, y1⟩ := B2.two
            have H3 := Lib.hid h2
            clear h2 k2 H2
            go_wp2_with fail
            refine (hAlike H3.out x1 x2 x3).mono ?_
            rintro e v9 ⟨rfl, b9⟩
            have H9 := Lib.hid ((H3.out.keep b9).less (Pr' := noPr) fun k hk => hk.elim)
            go_wp2
            go_roundw
            case rel => exact ⟨i + 1, _, _, by omega, by omega, by go_num, H9⟩
            case measure => simp [intOf]; omega
          · by_cases a3 : x0 = 3
            · subst a3
              obtain ⟨_, hpl, _, _, _, _, p64⟩ := H1.out.wf
              obtain ⟨c0, c1, c2, c4, cp, cz⟩ := H1.out.five
              have CP := Lib.hid cp
              obtain ⟨y0, y1⟩ := K1.out.two
              clear cp
              rcases Int.lt_or_le x1 0 with neg | pos
              · have WB := Lib.hid (show wasB ps x1 = false from by rw [wasB, decide_eq_false (by omega), Bool.false_and])
                have nd : decide ((0 : Int) ≤ x1) = false := decide_eq_false (by omega)
                go_wp2_with fail
                go_big_quiet (fail)
                go_wp2_with fail
                refine (mDone (H1.out.keep (below_drewN _ nq)) x1 x2 x3).mono ?_
                rintro e v1 ⟨rfl, h1, k1⟩
                have B1 : Blk v1 wr.heap.size #[.int .i64 3, .int .i64 x1] 28 := (k1 wr.heap.size (Or.inr rfl)).trans K1.out
                rw [doneP, WB.out] at h1
                rw [WB.out]
                obtain ⟨y0, y1⟩ := B1.two
                have H3 := Lib.hid h1
                clear h1 k1
                rw [if_neg Bool.false_ne_true] at H3
                go_wp2_with fail
                refine (hAlike H3.out x1 x2 x3).mono ?_
                rintro e v9 ⟨rfl, b9⟩
                have H9 := Lib.hid ((H3.out.keep b9).less (Pr' := noPr) fun k hk => hk.elim)
                go_wp2
                go_roundw
                case rel => exact ⟨i + 1, _, _, by omega, by omega, by go_num, H9⟩
                case measure => simp [intOf]; omega
              · rcases Int.lt_or_le x1 ps.length with inn | out
                · have hx : ps[x1.toNat]? = some ps[x1.toNat] := List.getElem?_eq_getElem (by omega)
                  generalize ps[x1.toNat] = x at hx
                  have WB := Lib.hid (show wasB ps x1 = x from by rw [wasB, decide_eq_true pos, hx]; rfl)
                  have dp := CP.out x1.toNat x hx
                  clear hx
                  cases x
                  · go_wp2_with fail
                    go_big_quiet (fail)
                    go_wp2_with fail
                    refine (mDone (H1.out.keep (below_drewN _ nq)) x1 x2 x3).mono ?_
                    rintro e v1 ⟨rfl, h1, k1⟩
                    have B1 : Blk v1 wr.heap.size #[.int .i64 3, .int .i64 x1] 28 := (k1 wr.heap.size (Or.inr rfl)).trans K1.out
                    rw [doneP, WB.out] at h1
                    rw [WB.out]
                    obtain ⟨y0, y1⟩ := B1.two
                    have H3 := Lib.hid h1
                    clear h1 k1
                    rw [if_neg Bool.false_ne_true] at H3
                    go_wp2_with fail
                    refine (hAlike H3.out x1 x2 x3).mono ?_
                    rintro e v9 ⟨rfl, b9⟩
                    have H9 := Lib.hid ((H3.out.keep b9).less (Pr' := noPr) fun k hk => hk.elim)
                    go_wp2
                    go_roundw
                    case rel => exact ⟨i + 1, _, _, by omega, by omega, by go_num, H9⟩
                    case measure => simp [intOf]; omega
                  · go_wp2_with fail
                    go_big_quiet (fail)
                    go_wp2_with fail
                    refine (mDone (H1.out.keep (below_drewN _ nq)) x1 x2 x3).mono ?_
                    rintro e v1 ⟨rfl, h1, k1⟩
                    have B1 : Blk v1 wr.heap.size #[.int .i64 3, .int .i64 x1] 28 := (k1 wr.heap.size (Or.inr rfl)).trans K1.out
                    rw [doneP, WB.out] at h1
                    rw [WB.out]
                    obtain ⟨y0, y1⟩ := B1.two
                    rw [if_pos rfl] at h1
                    have H3 := Lib.hid h1
                    clear h1 k1 c0 c1 c2 c4 cz dp
                    obtain ⟨c0, c1, c2, c4, cp, cz⟩ := H3.out.five
                    obtain ⟨z, hz⟩ : ∃ z, ps[x1.toNat]? = some z := ⟨_, List.getElem?_eq_getElem (by omega)⟩
                    have dp := cp x1.toNat z hz
                    have df := cz x1.toNat
                    clear cp cz hz
                    go_wp2_with fail
                    refine region_quiet_tail 7 (by kernel_rfl) (by kernel_rfl) ?_
                    simp only [List.take_succ_cons, List.take_zero, List.drop_succ_cons, List.drop_zero]
                    repeat (go_big_quiet_step (fail))
                    refine wpQuiet_nil ?_
                    rintro _ ⟨m, rfl⟩
                    have HX := (H3.out.keep (below_drewN _ m)).flag x1.toNat false
                    have B2 : Blk ((v1.drewN m).setCell ⟨a + 1, x1.toNat, none⟩ (.bool false)) wr.heap.size #[.int .i64 3, .int .i64 x1] 28 := (HX.2 wr.heap.size (Or.inr rfl)).trans B1
                    have H5 := Lib.hid HX.1
                    clear HX y0 y1
                    obtain ⟨y0, y1⟩ := B2.two
                    go_wp2_with fail
                    refine (hAlike H5.out x1 x2 x3).mono ?_
                    rintro e v9 ⟨rfl, b9⟩
                    have H9 := Lib.hid ((H5.out.keep b9).less (Pr' := noPr) fun k hk => hk.elim)
                    go_wp2
                    go_roundw
                    case rel => exact ⟨i + 1, _, _, by omega, by omega, by go_num, H9⟩
                    case measure => simp [intOf]; omega
                · have WB := Lib.hid (show wasB ps x1 = false from by rw [wasB, List.getElem?_eq_none (by omega)]; simp)
                  have od : decide (x1 < (ps.length : Int)) = false := decide_eq_false (by omega)
                  go_wp2_with fail
                  go_big_quiet (fail)
                  go_wp2_with fail
                  refine (mDone (H1.out.keep (below_drewN _ nq)) x1 x2 x3).mono ?_
                  rintro e v1 ⟨rfl, h1, k1⟩
                  have B1 : Blk v1 wr.heap.size #[.int .i64 3, .int .i64 x1] 28 := (k1 wr.heap.size (Or.inr rfl)).trans K1.out
                  rw [doneP, WB.out] at h1
                  rw [WB.out]
                  obtain ⟨y0, y1⟩ := B1.two
                  have H3 := Lib.hid h1
                  clear h1 k1
                  rw [if_neg Bool.false_ne_true] at H3
                  go_wp2_with fail
                  refine (hAlike H3.out x1 x2 x3).mono ?_
                  rintro e v9 ⟨rfl, b9⟩
                  have H9 := Lib.hid ((H3.out.keep b9).less (Pr' := noPr) fun k hk => hk.elim)
                  go_wp2
                  go_roundw
                  case rel => exact ⟨i + 1, _, _, by omega, by omega, by go_num, H9⟩
                  case measure => simp [intOf]; omega
            · have WF1 := Lib.hid H1.out.wf
              obtain ⟨z0, z1⟩ := K1.out.two
              go_wp2_with fail
              refine (rStarts H1.out 0 1099511627776).mono ?_
              rintro e v1 ⟨u, rfl, o1, b1⟩
              have L4 := starts_few (F := F) (f := 0) (t := 1099511627776) WF1.out.2.2.2.1 WF1.out.1 (by have := WF1.out.2.1; have := WF1.out.2.2.2.2.2.2; omega)
              have SI := Lib.hid (fun y (hy : y ∈ startsP F G pgs 0 1099511627776) => starts_in hy)
              have GY : startsP F G pgs 0 1099511627776 = startsP F G pgs 0 1099511627776 := rfl
              obtain ⟨bo, lcap, hu, hat⟩ := o1.at_
              subst hu
              obtain ⟨L, hL⟩ : ∃ L, startsP F G pgs 0 1099511627776 = L := ⟨_, rfl⟩
              rw [hL] at L4 hat SI ⊢
              have HL0 := Lib.hid hL
              clear GY
              obtain ⟨l, hl⟩ : ∃ l, L.length = l := ⟨_, rfl⟩
              rw [hl] at L4 ⊢
              have HA := Lib.hid hat
              clear hat z0 z1
              obtain ⟨z0, z1⟩ := (K1.out.keep b1).two
              rcases Nat.eq_zero_or_pos l with z | z
              · subst z
                have H9 := Lib.hid ((H1.out.keep b1).less (Pr' := noPr) fun k hk => hk.elim)
                go_wp2
                go_roundw
                case rel => exact ⟨i + 1, _, _, by omega, by omega, by go_num, H9⟩
                case measure => simp [intOf]; omega
              · obtain ⟨tm0, tm1⟩ := tmod_in x1 l z
                obtain ⟨r, hr⟩ : ∃ r, x1.tmod (l : Int) = r := ⟨_, rfl⟩
                rw [hr] at tm0 tm1
                rcases Int.lt_or_le r 0 with rn | rn
                · obtain ⟨kn, hk⟩ : ∃ kn : Nat, r + (l : Int) = kn := ⟨(r + l).toNat, by omega⟩
                  have hy : L[kn]? = some L[kn] := List.getElem?_eq_getElem (by omega)
                  generalize L[kn] = y at hy
                  have YM := Lib.hid (List.mem_of_getElem? hy)
                  have y2 := SI.out y YM.out
                  obtain ⟨gl, eg, gge, glt, lc, _⟩ := HA.out kn y hy
                  subst eg
                  have yc := lc kn y hy
                  have H2 := Lib.hid (H1.out.more b1 gge glt)
                  have k0 : (0 : Int) ≤ (kn : Int) := by omega
                  have k1 : (kn : Int) < (l : Int) := by omega
                  clear lc hy
                  go_wp2_with fail
                  refine (mGive H2.out y (by omega) (by omega)).mono ?_
                  rintro e v2 ⟨ok1, pm1, sm1, rfl, t1, h3, q3⟩
                  obtain rfl : ok1 = true := give_yes (f := 0) (t := 1099511627776) t1 (by rw [HL0.out]; exact YM.out)
                  have yc2 : v2.cell? ⟨gl, kn, none⟩ = some (.int .i64 y) := (World.cell?_of_block (a := ⟨gl, kn, none⟩) (q3 gl (Or.inr rfl))).trans yc
                  have B2 : Blk v2 wr.heap.size #[.int .i64 x0, .int .i64 x1] 28 := (q3 wr.heap.size (Or.inl (Or.inr rfl))).trans (K1.out.keep b1)
                  have H3 := Lib.hid h3
                  have T1 := Lib.hid t1
                  clear h3 q3 t1 yc
                  go_wp2_with fail
                  refine (rGive H3.out y).mono ?_
                  rintro e v3 ⟨ok2, pm2, sm2, rfl, t2, h4, q4⟩
                  obtain ⟨rfl, rfl, rfl⟩ := t2.one WF1.out.2.2.1 WF1.out.1 T1.out
                  have B3 : Blk v3 wr.heap.size #[.int .i64 x0, .int .i64 x1] 28 := (q4 wr.heap.size (Or.inl (Or.inr rfl))).trans B2
                  obtain ⟨y0, y1⟩ := B3.two
                  have H5 := Lib.hid (h4.less (Pr' := actPr wr.heap.size) fun k hk => Or.inl hk)
                  clear h4 q4 t2 T1 H3 yc2
                  go_wp2_with fail
                  refine (hAlike H5.out x1 x2 x3).mono ?_
                  rintro e v9 ⟨rfl, b9⟩
                  have H9 := Lib.hid ((H5.out.keep b9).less (Pr' := noPr) fun k hk => hk.elim)
                  go_wp2
                  go_roundw
                  case rel => exact ⟨i + 1, _, _, by omega, by omega, by go_num, H9⟩
                  case measure => simp [intOf]; omega
                · obtain ⟨kn, hk⟩ : ∃ kn : Nat, r = kn := ⟨r.toNat, by omega⟩
                  subst hk
                  have hy : L[kn]? = some L[kn] := List.getElem?_eq_getElem (by omega)
                  generalize L[kn] = y at hy
                  have YM := Lib.hid (List.mem_of_getElem? hy)
                  have y2 := SI.out y YM.out
                  obtain ⟨gl, eg, gge, glt, lc, _⟩ := HA.out kn y hy
                  subst eg
                  have yc := lc kn y hy
                  have H2 := Lib.hid (H1.out.more b1 gge glt)
                  have k0 : (0 : Int) ≤ (kn : Int) := by omega
                  have k1 : (kn : Int) < (l : Int) := by omega
                  clear lc hy
                  go_wp2_with fail
                  refine (mGive H2.out y (by omega) (by omega)).mono ?_
                  rintro e v2 ⟨ok1, pm1, sm1, rfl, t1, h3, q3⟩
                  obtain rfl : ok1 = true := give_yes (f := 0) (t := 1099511627776) t1 (by rw [HL0.out]; exact YM.out)
                  have yc2 : v2.cell? ⟨gl, kn, none⟩ = some (.int .i64 y) := (World.cell?_of_block (a := ⟨gl, kn, none⟩) (q3 gl (Or.inr rfl))).trans yc
                  have B2 : Blk v2 wr.heap.size #[.int .i64 x0, .int .i64 x1] 28 := (q3 wr.heap.size (Or.inl (Or.inr rfl))).trans (K1.out.keep b1)
                  have H3 := Lib.hid h3
                  have T1 := Lib.hid t1
                  clear h3 q3 t1 yc
                  go_wp2_with fail
                  refine (rGive H3.out y).mono ?_
                  rintro e v3 ⟨ok2, pm2, sm2, rfl, t2, h4, q4⟩
                  obtain ⟨rfl, rfl, rfl⟩ := t2.one WF1.out.2.2.1 WF1.out.1 T1.out
                  have B3 : Blk v3 wr.heap.size #[.int .i64 x0, .int .i64 x1] 28 := (q4 wr.heap.size (Or.inl (Or.inr rfl))).trans B2
                  obtain ⟨y0, y1⟩ := B3.two
                  have H5 := Lib.hid (h4.less (Pr' := actPr wr.heap.size) fun k hk => Or.inl hk)
                  clear h4 q4 t2 T1 H3 yc2
                  go_wp2_with fail
                  refine (hAlike H5.out x1 x2 x3).mono ?_
                  rintro e v9 ⟨rfl, b9⟩
                  have H9 := Lib.hid ((H5.out.keep b9).less (Pr' := noPr) fun k hk => hk.elim)
                  go_wp2
                  go_roundw
                  case rel => exact ⟨i + 1, _, _, by omega, by omega, by go_num, H9⟩
                  case measure => simp [intOf]; omega
    · have HB := Lib.hid HS.out.below
      clear HS
      by_cases il : i < n
      · obtain rfl : i = 60 := by omega
        go_wp2_with fail
        refine (awake5_any M _).mono ?_
        rintro e w9 ⟨rfl, b9⟩
        go_wp2
        go_ret
        exact ⟨rfl, below_trans HB.out b9⟩
      · obtain rfl : i = n := by omega
        go_wp2_with fail
        refine (awake5_any M _).mono ?_
        rintro e w9 ⟨rfl, b9⟩
        go_wp2
        go_ret
        exact ⟨rfl, below_trans HB.out b9⟩
end Go.Proofs.Ytinoeofimajpdaa

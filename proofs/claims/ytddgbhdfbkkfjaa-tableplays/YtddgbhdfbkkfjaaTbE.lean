/- TablePlays: any handles, set to anything. -/
import Derived.Test.YtddgbhdfbkkfjaaTbD
import Derived.Test.YtddgbhdfbkkfjaaCutN
namespace Go.Proofs.Ytddgbhdfbkkfjaa
open Go.RowKit

theorem TbBeside.keep {w0 w w' : World} {b g off k c : Nat} {ys zs : List Int} (h : TbBeside w0 w b ys g off k c zs) (f : Below w.heap.size w w') : TbBeside w0 w' b ys g off k c zs := ⟨h.tab.keep f, h.row.keep f⟩

theorem TbBeside.turn {w0 w w' : World} {b g off k c : Nat} {ys ys' zs : List Int} (h : TbBeside w0 w b ys g off k c zs) (t : Hz w0 w' (fun i => i = g) b ys') (kp : Kp (fun i => i = g) w w') : TbBeside w0 w' b ys' g off k c zs :=
  ⟨t, h.row.kp kp (fun k hk => by cases hk; rfl)⟩

theorem tb_start {w0 w : World} {b m : Nat} {K : Int} (h : Hz w0 w noZ b (zeros K)) (hm : K.toNat = m) (h64 : m ≤ 64) : TbBeside w0 (w.alloc (.cells (ints (zeros K)).toArray 3)) b (zeros K) w.heap.size 0 m m (zeros K) := by
  subst hm
  refine ⟨h.grow ((Below.refl _ _).alloc (Nat.le_refl _) _) (fun k e => .inr (by subst e; simp)), ?_⟩
  have q := Qu.mk (w := w.alloc (.cells (ints (zeros K)).toArray 3)) (A := some ⟨w.heap.size, 0, none⟩) (n := K.toNat) (c := K.toNat) (xs := zeros K) (zeros_length K) (Nat.le_refl _) (Nat.le_trans h64 (by decide))
    (.inr ⟨w.heap.size, 0, _, rfl, Blk.new w _ _, by simp [ints, zeros_length], fun i x hx => by simp [ints, hx]⟩)
  exact q

set_option maxRecDepth 100000 in
set_option maxHeartbeats 8000000 in
theorem tablePlays_walk (n : Int) (A : Option Addr) (an ac : Nat) (hs : List Int) (B : Option Addr) (bn bc : Nat) (ps : List Int) (w : World) (ra : Rd .i64 w A an hs) (an1 : an ≤ ac) (ac1 : ac ≤ maxLen) (rb : Rd .i64 w B bn ps) (bn1 : bn ≤ bc) (bc1 : bc ≤ maxLen) :
    Calls Try.prog 3 #[.int .i64 n, .slice A an ac, .slice B bn bc] w fun e w' => e = .returned (.bool true) ∧ Below w.heap.size w w' := by
  have am : an ≤ 9223372036854775807 := by simp only [maxLen] at ac1; omega
  have bm : bn ≤ 9223372036854775807 := by simp only [maxLen] at bc1; omega
  have RA := Lib.hid ra
  have RB := Lib.hid rb
  have kk := cutI_in (n := n) (l := 0) (m := 64) (by decide)
  have CU := Lib.hid (cut_any n 0 64)
  clear ra an1 ac1 rb bn1 bc1
  go_enter Try.func3, Try.ntmps3
  go_wp2_with fail
  refine (hz_new (Z := noZ) n (Below.refl _ w) tb_noZ).mono ?_
  rintro e w1 ⟨b, rfl, s, _⟩
  have HS := Lib.hid s
  clear s
  obtain ⟨K, hK⟩ : ∃ K, cutI n 0 64 = K := ⟨_, rfl⟩
  rw [hK] at HS kk CU
  clear hK
  have mk := run_make_int K (by omega) (by omega) w1
  obtain ⟨m, hm⟩ : ∃ m, K.toNat = m := ⟨_, rfl⟩
  have m64 : m ≤ 64 := by omega
  rw [hm] at mk
  have HP := Lib.hid (tb_start HS.out hm m64)
  unfold tbP
  clear HS
  go_wp2_with fail
  refine (CU.out w1).mono ?_
  rintro e w2 ⟨rfl, rfl⟩
  clear CU
  go_wp2_with fail
  generalize zeros K = xs at *
  clear mk hm kk
  generalize w1.heap.size = g at *
  go_loopw [9] (fun s wr => ∃ (i : Nat) (ys : List Int), i ≤ an ∧ i ≤ bn ∧ i ≤ 80 ∧ s = .int .i64 i ∧ Hid (TbBeside w wr b ys g 0 m m ys)) (fun s _ => 80 - (intOf s).toNat)
  case atStart => exact ⟨0, xs, Nat.zero_le _, Nat.zero_le _, Nat.zero_le _, rfl, HP⟩
  case round =>
    clear HP
    obtain ⟨i, ys, hi, hj, hk, rfl, HB⟩ := hrel
    by_cases l1 : i < an
    · by_cases l2 : i < bn
      · by_cases l3 : i < 80
        · obtain ⟨ad, h, rfl, hh, hcell⟩ := RA.out.at_ HB.out.tab.bel l1
          obtain ⟨bd, p, rfl, hp, pcell⟩ := RB.out.at_ HB.out.tab.bel l2
          have hl := HB.out.row.len
          clear hh
          have HPP := Lib.hid hp
          clear hp
          by_cases ht : 0 ≤ h ∧ h < (m : Int)
          · obtain ⟨j, rfl⟩ : ∃ j : Nat, h = (j : Int) := ⟨h.toNat, by omega⟩
            have jm : j < m := by omega
            have j0 : (0 : Int) ≤ (j : Int) := by omega
            have j1 : (j : Int) < (m : Int) := by omega
            have HJ := Lib.hid (show j < ys.length by omega)
            have HX := Lib.hid (List.getElem?_eq_getElem (l := ys) (i := j) (by omega))
            generalize ys[j]'(by omega) = x at HX
            clear ht hl
            go_wp2_with fail
            refine (hz_get_yes HB.out.tab j HX.out).mono ?_
            rintro e w2 ⟨rfl, rfl⟩
            go_wp2_with fail
            refine (hz_set_yes HB.out.tab j HJ.out p).mono ?_
            rintro e w2 ⟨rfl, s, kp⟩
            have HT := Lib.hid (HB.out.turn s kp)
            clear s kp hcell pcell HB
            obtain ⟨ad4, p4, e4, hp4, pcell⟩ := RB.out.at_ HT.out.tab.bel l2
            cases e4
            obtain rfl : p4 = p := by
              have h3 := HPP.out
              rw [hp4] at h3
              cases h3
              rfl
            obtain ⟨g', off', e, hg, hc, hf⟩ := HT.out.row.at_ (by omega)
            cases e
            have ci := hc j x HX.out
            rw [Nat.zero_add] at ci
            have fi := hf j
            have HS := Lib.hid (HT.out.set j p4)
            rw [Nat.zero_add] at HS
            clear hc hf hp4 HT HPP
            go_wp2_with fail
            refine (hz_all HS.out.tab HS.out.row.len).mono ?_
            rintro e w4 ⟨A4, c4, rfl, q4, bb, _⟩
            have HE := Lib.hid (HS.out.keep bb)
            have HQ := Lib.hid q4
            clear bb q4 HS
            go_wp2_with fail
            refine (ints_qu _ _ _ _ _ _ _ HQ.out HE.out.row (by omega)).mono ?_
            rintro e w7 ⟨rfl, bb⟩
            have HS := Lib.hid (HE.out.keep bb)
            clear bb HQ HE
            go_wp2
            go_roundw
            case rel => exact ⟨i + 1, _, by omega, by omega, by omega, by go_num, HS⟩
            case measure => simp [intOf]; omega
          · have HN := Lib.hid (show h < 0 ∨ (ys.length : Int) ≤ h by omega)
            have HS := HB
            have d1 : (decide (0 ≤ h) && decide (h < (m : Int))) = false := by
              by_cases a : 0 ≤ h
              · simp; omega
              · simp; omega
            clear hl
            by_cases h0 : 0 ≤ h
            · have h2 : decide (h < (m : Int)) = false := decide_eq_false (by omega)
              have h3 : ¬ (h < (m : Int)) := by omega
              clear ht d1
              go_wp2_with fail
              refine (hz_get_no HB.out.tab HN.out).mono ?_
              rintro e w2 ⟨rfl, rfl⟩
              go_wp2_with fail
              refine (hz_set_no HB.out.tab HN.out p).mono ?_
              rintro e w2 ⟨rfl, rfl⟩
              clear HB hcell pcell
              go_wp2_with fail
              refine (hz_all HS.out.tab HS.out.row.len).mono ?_
              rintro e w4 ⟨A4, c4, rfl, q4, bb, _⟩
              have HE := Lib.hid (HS.out.keep bb)
              have HQ := Lib.hid q4
              clear bb q4 HS
              go_wp2_with fail
              refine (ints_qu _ _ _ _ _ _ _ HQ.out HE.out.row (by omega)).mono ?_
              rintro e w7 ⟨rfl, bb⟩
              have HS := Lib.hid (HE.out.keep bb)
              clear bb HQ HE
              go_wp2
              go_roundw
              case rel => exact ⟨i + 1, _, by omega, by omega, by omega, by go_num, HS⟩
              case measure => simp [intOf]; omega
            · clear ht d1
              go_wp2_with fail
              refine (hz_get_no HB.out.tab HN.out).mono ?_
              rintro e w2 ⟨rfl, rfl⟩
              go_wp2_with fail
              refine (hz_set_no HB.out.tab HN.out p).mono ?_
              rintro e w2 ⟨rfl, rfl⟩
              clear HB hcell pcell
              go_wp2_with fail
              refine (hz_all HS.out.tab HS.out.row.len).mono ?_
              rintro e w4 ⟨A4, c4, rfl, q4, bb, _⟩
              have HE := Lib.hid (HS.out.keep bb)
              have HQ := Lib.hid q4
              clear bb q4 HS
              go_wp2_with fail
              refine (ints_qu _ _ _ _ _ _ _ HQ.out HE.out.row (by omega)).mono ?_
              rintro e w7 ⟨rfl, bb⟩
              have HS := Lib.hid (HE.out.keep bb)
              clear bb HQ HE
              go_wp2
              go_roundw
              case rel => exact ⟨i + 1, _, by omega, by omega, by omega, by go_num, HS⟩
              case measure => simp [intOf]; omega
        · have HT := Lib.hid HB.out.tab
          have HL := Lib.hid HB.out.row.len
          clear HB
          go_wp2_with fail
          refine (tbAwake_walk wr).mono ?_
          rintro e w3 ⟨rfl, bb⟩
          have HE := Lib.hid (HT.out.keep bb)
          clear bb HT
          go_wp2_with fail
          refine (hz_all HE.out HL.out).mono ?_
          rintro e w4 ⟨A4, c4, rfl, q4, bb, _⟩
          have HF := Lib.hid (HE.out.keep bb)
          clear bb q4 HE
          go_wp2
          go_ret
          exact ⟨rfl, HF.out.bel⟩
      · have HT := Lib.hid HB.out.tab
        have HL := Lib.hid HB.out.row.len
        clear HB
        go_wp2_with fail
        refine (tbAwake_walk wr).mono ?_
        rintro e w3 ⟨rfl, bb⟩
        have HE := Lib.hid (HT.out.keep bb)
        clear bb HT
        go_wp2_with fail
        refine (hz_all HE.out HL.out).mono ?_
        rintro e w4 ⟨A4, c4, rfl, q4, bb, _⟩
        have HF := Lib.hid (HE.out.keep bb)
        clear bb q4 HE
        go_wp2
        go_ret
        exact ⟨rfl, HF.out.bel⟩
    · have HT := Lib.hid HB.out.tab
      have HL := Lib.hid HB.out.row.len
      clear HB
      go_wp2_with fail
      refine (tbAwake_walk wr).mono ?_
      rintro e w3 ⟨rfl, bb⟩
      have HE := Lib.hid (HT.out.keep bb)
      clear bb HT
      go_wp2_with fail
      refine (hz_all HE.out HL.out).mono ?_
      rintro e w4 ⟨A4, c4, rfl, q4, bb, _⟩
      have HF := Lib.hid (HE.out.keep bb)
      clear bb q4 HE
      go_wp2
      go_ret
      exact ⟨rfl, HF.out.bel⟩
end Go.Proofs.Ytddgbhdfbkkfjaa

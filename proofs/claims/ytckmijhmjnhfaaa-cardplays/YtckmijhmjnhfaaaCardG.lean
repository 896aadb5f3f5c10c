/- The walk of CardPlays. -/
import Derived.Test.YtckmijhmjnhfaaaCardF
namespace Go.Proofs.Ytckmijhmjnhfaaa
open Go.RowKit

set_option maxHeartbeats 16000000 in
set_option maxRecDepth 100000 in
theorem cardPlays_walk (f p g : Int) (A : Option Addr) (n c : Nat) (w : World) (rd : RdA w A n) (hn : n ≤ c) (hc : c ≤ maxLen) :
    Calls Try.prog 3 #[.int .i64 f, .int .i64 p, .int .i64 g, .slice A n c] w fun e w' => e = .returned (.bool true) ∧ Below w.heap.size w w' := by
  have nm : n ≤ 9223372036854775807 := by simp only [maxLen] at hc; omega
  have RD := Lib.hid rd
  clear rd hc hn
  have hF := cut_any f 0 1048576 w
  have hW := cut_any p 0 1048576 w
  have hC := cut_any g 1 1048576 w
  have hN := cNew_any f p g w
  have iF := cutI_in (n := f) (l := 0) (m := 1048576) (by omega)
  have iW := cutI_in (n := p) (l := 0) (m := 1048576) (by omega)
  have iC := cutI_in (n := g) (l := 1) (m := 1048576) (by omega)
  obtain ⟨F, eF⟩ : ∃ F, cutI f 0 1048576 = F := ⟨_, rfl⟩
  obtain ⟨W, eW⟩ : ∃ W, cutI p 0 1048576 = W := ⟨_, rfl⟩
  obtain ⟨C, eC⟩ : ∃ C, cutI g 1 1048576 = C := ⟨_, rfl⟩
  rw [eF] at hF iF hN
  rw [eW] at hW iW hN
  rw [eC] at hC iC hN
  obtain ⟨f0, f1⟩ := iF
  obtain ⟨w0, w1⟩ := iW
  obtain ⟨c0, c1⟩ := iC
  clear eF eW eC
  have HF := Lib.hid hF
  have HW := Lib.hid hW
  have HC := Lib.hid hC
  have HNew := Lib.hid hN
  have hP := refPages_any C W
  rw [pages_marks w0 c0] at hP
  have HP := Lib.hid hP
  clear hF hW hC hN hP
  have few := @few_marks W C c0
  obtain ⟨Q, hQ⟩ : ∃ Q, W / C = Q := ⟨_, rfl⟩
  have hQ2 : W.tdiv C = Q := by rw [← hQ]; exact Int.tdiv_eq_ediv_of_nonneg w0
  have q0 : 0 ≤ Q := by rw [← hQ]; exact Int.ediv_nonneg w0 (by omega)
  have q1 : Q ≤ 1048576 := by rw [← hQ]; exact Int.le_trans (Int.ediv_le_self C w0) w1
  rw [hQ] at few
  have FEW := Lib.hid few
  clear few hQ
  go_enter Try.func3, Try.ntmps3
  go_wp2_with fail
  refine HF.out.mono ?_
  rintro e w1 ⟨rfl, rfl⟩
  go_wp2_with fail
  refine HW.out.mono ?_
  rintro e w1 ⟨rfl, rfl⟩
  go_wp2_with fail
  refine HC.out.mono ?_
  rintro e w1 ⟨rfl, rfl⟩
  clear HF HW HC
  by_cases big : 2000 < Q
  · go_wp2_with fail
    refine (awake_any _).mono ?_
    rintro e w1 ⟨rfl, b1⟩
    go_wp2
    go_ret
    exact ⟨rfl, b1⟩
  have few := FEW.out (by omega)
  go_wp2_with fail
  refine HNew.out.mono ?_
  rintro e wa ⟨b, mb, rfl, g1, g2, ⟨len, hN, i1⟩, b1⟩
  rw [← hN] at HP few
  have HL := Lib.hid hN
  have hmk := run_make_bool (len : Int) (by omega) (by omega)
  simp only [Int.toNat_natCast] at hmk
  clear hN FEW HNew hQ2 q0 q1 big
  go_wp2_with fail
  refine (HP.out wa (by omega)).mono ?_
  rintro e wb ⟨rfl, rfl⟩
  have HS : Hid (Dbl w (wa.alloc (.cells ((List.replicate len false).map Value.bool).toArray 4)) b mb wa.heap.size F W C (List.replicate len false) (List.replicate len false)) :=
    Lib.hid ⟨Ses.keep ⟨i1, b1, g1, g2⟩ ((Below.refl _ _).alloc (Nat.le_refl _) _), Blk.new _ _ _, by have := i1.lt2; omega, by have := i1.lt; omega, b1.size⟩
  clear i1 b1 g1 g2 HP
  go_wp2_with fail
  clear hmk
  generalize wa.heap.size = lb at HS ⊢
  go_loopw [14] (fun s14 wr => ∃ (i : Nat) (ms : List Bool), i ≤ n ∧ i ≤ 60 ∧ s14 = .int .i64 i ∧ Hid (ms.length = len) ∧ Hid (Dbl w wr b mb lb F W C ms ms)) (fun s _ => 60 - (intOf s).toNat)
  case atStart => exact ⟨0, List.replicate len false, Nat.zero_le _, by omega, rfl, Lib.hid (by simp), by simpa using HS⟩
  case round =>
    clear HS
    obtain ⟨i, ms, hin, hi6, rfl, ML, HS⟩ := hrel
    by_cases ilt : i < n ∧ i < 60
    · obtain ⟨il, i6⟩ := ilt
      obtain ⟨ad, x0, x1, rfl, x2, x3, rc⟩ := RD.out i il
      obtain ⟨r0, r1⟩ := rc _ HS.out.ses.old
      have HT := Lib.hid (HS.out.act (x0 := x0) (x1 := x1))
      clear rc HS
      have cz : ¬ C = 0 := by omega
      have cz2 : (C == 0) = false := by simp; omega
      go_upto_region 10 with (fail)
      clear r0 r1
      generalize wr.alloc (.cells #[.int .i64 x0, .int .i64 x1] 30) = wd at HT ⊢
      generalize wr.heap.size = ab at HT ⊢
      obtain ⟨y0, y1⟩ := HT.out.two
      obtain ⟨I, hI⟩ : ∃ I, (decide (F ≤ x1) && decide (x1 < F + W)) = I := ⟨_, rfl⟩
      have HI := Lib.hid hI
      clear hI
      go_cut [16] (fun s wc => s = .bool I ∧ wd = wc)
      case first =>
        by_cases pA : F ≤ x1
        · by_cases pB : x1 < F + W
          · have KI : Hid (true = I) := Lib.hid (by rw [← HI.out]; simp [pA, pB])
            go_wp2
            go_meet
            case rel => exact ⟨by rw [← KI.out], by trivial⟩
          · have KI : Hid (false = I) := Lib.hid (by rw [← HI.out]; simp [pB])
            go_wp2
            go_meet
            case rel => exact ⟨by rw [← KI.out], by trivial⟩
        · have KI : Hid (false = I) := Lib.hid (by rw [← HI.out]; simp [pA])
          go_wp2
          go_meet
          case rel => exact ⟨by rw [← KI.out], by trivial⟩
      case rest =>
        obtain ⟨rfl, rfl⟩ := hcut
        cases I
        · have px : x1 < F ∨ F + W ≤ x1 := by
            have h := HI.out
            rw [Bool.and_eq_false_iff, decide_eq_false_iff_not, decide_eq_false_iff_not] at h
            omega
          clear HI
          go_upto_block 2 with (fail)
          go_cut [75] (fun _ wc => ∃ ms : List Bool, Hid (ms.length = len) ∧ Hid (Tri w wc b mb lb ab F W C x0 x1 ms ms))
          case first =>
            by_cases a0 : x0 = 0
            · as_aux_lemma =>
              subst a0
              go_wp2_with fail
              refine (cMark_no b mb F W C _ _ x1 HT.out.is (by omega) (by omega)).mono ?_
              rintro e v1 ⟨rfl, b1⟩
              have HT := Lib.hid (HT.out.keep b1)
              clear y0 y1 b1
              go_wp2
              go_meet
              case rel => exact ⟨_, ML, HT⟩
            · by_cases a1 : x0 = 1
              · as_aux_lemma =>
                subst a1
                clear a0
                by_cases rg : 0 ≤ x1 ∧ x1 < len
                · obtain ⟨rA, rB⟩ := rg
                  obtain ⟨k, rfl⟩ : ∃ k : Nat, x1 = k := ⟨x1.toNat, by omega⟩
                  obtain ⟨v, hv⟩ : ∃ v, ms[k]? = some v := ⟨_, List.getElem?_eq_getElem (by have := ML.out; omega)⟩
                  have HV := Lib.hid hv
                  obtain ⟨z0, z1⟩ := HT.out.flag hv
                  clear hv
                  cases v
                  · go_wp2_with fail
                    refine (cClear_yes b mb F W C _ _ k false HT.out.is HV.out).mono ?_
                    rintro e v1 ⟨rfl, t1⟩
                    rw [set_same HV.out] at t1
                    have HT := Lib.hid (HT.out.step t1)
                    clear y0 y1 t1 z0 z1
                    go_wp2
                    go_meet
                    case rel => exact ⟨_, ML, HT⟩
                  · go_wp2_with fail
                    refine (cClear_yes b mb F W C _ _ k true HT.out.is HV.out).mono ?_
                    rintro e v1 ⟨rfl, t1⟩
                    have HT := Lib.hid (HT.out.step t1)
                    clear y0 y1 t1 z0 z1
                    obtain ⟨y0, y1⟩ := HT.out.two
                    obtain ⟨z0, z1⟩ := HT.out.flag HV.out
                    have N1 := Lib.hid (HT.out.set k false)
                    have M1 := Lib.hid (show (ms.set k false).length = len by rw [List.length_set]; exact ML.out)
                    clear HT
                    go_wp2
                    go_meet
                    case rel => exact ⟨_, M1, N1⟩
                · by_cases rA : 0 ≤ x1
                  all_goals
                    go_wp2_with fail
                    refine (cClear_no b mb F W C _ _ x1 HT.out.is (by have := ML.out; omega)).mono ?_
                    rintro e v1 ⟨rfl, rfl⟩
                    clear y0 y1
                    go_wp2
                    go_meet
                    case rel => exact ⟨_, ML, HT⟩
              · have e0 : (x0 == 0) = false := beq_eq_false_iff_ne.2 a0
                have e1 : (x0 == 1) = false := beq_eq_false_iff_ne.2 a1
                go_wp2
                go_meet
                case rel => exact ⟨_, ML, HT⟩
          case rest =>
            as_aux_lemma =>
            clear ML HT y0 y1
            obtain ⟨ms, ML, HT⟩ := hcut
            obtain ⟨y0, y1⟩ := HT.out.two
            go_wp2_with fail
            generalize wc = wo at *
            go_loopw [18, 19, 20, 21] (fun s18 s19 s20 s21 wi => ∃ (k cnt : Nat) (r : Int) (ok : Bool), k ≤ len ∧ s21 = .int .i64 k ∧ s20 = .int .i64 cnt ∧ s18 = .int .i64 r ∧ s19 = .bool ok ∧ cnt ≤ k ∧ Hid (cntI ms k = cnt) ∧ Hid (FirstA (ms.take k) x1 r ok) ∧ wo = wi) (fun _ _ _ s _ => len - (intOf s).toNat)
            case atStart => exact ⟨0, 0, 0, false, Nat.zero_le _, rfl, rfl, rfl, rfl, Nat.le_refl _, Lib.hid (by simp [cntI]), Lib.hid (first_none ms x1), rfl⟩
            case round =>
              obtain ⟨k, cnt, r, ok, hk, rfl, rfl, rfl, rfl, hck, CN, FI, rfl⟩ := hrel
              by_cases hlt : k < len
              · as_aux_lemma =>
                obtain ⟨v, hv⟩ : ∃ v, ms[k]? = some v := ⟨_, List.getElem?_eq_getElem (by have := ML.out; omega)⟩
                obtain ⟨z0, z1⟩ := HT.out.flag hv
                have HV := Lib.hid hv
                clear hv
                cases v
                · have N1 := Lib.hid (show cntI ms (k + 1) = cnt by rw [cntI_next HV.out, CN.out]; rfl)
                  have N2 := Lib.hid (FI.out.stay HV.out (Or.inl rfl))
                  go_wp2
                  go_roundw
                  case rel => exact ⟨k + 1, cnt, r, ok, by omega, by go_num, rfl, rfl, rfl, by omega, N1, N2, by trivial⟩
                  case measure => simp [intOf]; omega
                · have N1 := Lib.hid (show cntI ms (k + 1) = cnt + 1 by rw [cntI_next HV.out, CN.out]; rfl)
                  by_cases hx : x1 ≤ k
                  · cases ok
                    · have N2 := Lib.hid (FI.out.hit HV.out hx)
                      go_wp2
                      go_roundw
                      case rel => exact ⟨k + 1, cnt + 1, k, true, by omega, by go_num, by go_num, rfl, rfl, by omega, N1, N2, by trivial⟩
                      case measure => simp [intOf]; omega
                    · have N2 := Lib.hid (FI.out.stay HV.out (Or.inr (Or.inr rfl)))
                      go_wp2
                      go_roundw
                      case rel => exact ⟨k + 1, cnt + 1, r, true, by omega, by go_num, by go_num, rfl, rfl, by omega, N1, N2, by trivial⟩
                      case measure => simp [intOf]; omega
                  · have N2 := Lib.hid (FI.out.stay HV.out (Or.inr (Or.inl (by omega))))
                    go_wp2
                    go_roundw
                    case rel => exact ⟨k + 1, cnt + 1, r, ok, by omega, by go_num, by go_num, rfl, rfl, by omega, N1, N2, by trivial⟩
                    case measure => simp [intOf]; omega
              · as_aux_lemma =>
                obtain rfl : k = len := by omega
                have CA := CN.out
                have FA := FI.out
                rw [← ML.out, cntI_all] at CA
                rw [← ML.out, List.take_length] at FA
                have CA := Lib.hid CA
                have FA := Lib.hid FA
                clear CN FI
                go_wp2_with fail
                refine (cFirst_any b mb F W C _ _ x1 HT.out.is (by omega)).mono ?_
                rintro e v1 ⟨r', ok', he, hf, rfl⟩
                obtain ⟨rfl, rfl⟩ := hf.one FA.out
                subst he
                clear hf
                go_wp2_with fail
                refine (cCount_any b mb F W C _ _ HT.out.is).mono ?_
                rw [CA.out]
                rintro e v1 ⟨rfl, rfl⟩
                go_wp2_with fail
                refine (cMarked_no b mb F W C _ _ x1 HT.out.is (by omega) (by omega)).mono ?_
                rintro e v1 ⟨rfl, b1⟩
                have HT := Lib.hid (HT.out.keep b1)
                clear y0 y1 b1
                obtain ⟨y0, y1⟩ := HT.out.two
                by_cases rg : 0 ≤ x1 ∧ x1 < k
                · obtain ⟨rA, rB⟩ := rg
                  have hp := HT.out.is.part rA (by have := ML.out; omega)
                  have PC := cPart_yes b mb F W C ms
                  have EI := Lib.hid (show endI F W C x1 = if F + x1 * C + C > F + W then F + W else F + x1 * C + C from rfl)
                  obtain ⟨L, hL⟩ : ∃ L, x1 * C = L := ⟨_, rfl⟩
                  obtain ⟨E, hE⟩ : ∃ E, endI F W C x1 = E := ⟨_, rfl⟩
                  rw [hL] at hp EI
                  rw [hE] at EI
                  obtain ⟨p0, p1⟩ := hp
                  have EQ := Lib.hid hE
                  have LQ := Lib.hid hL
                  have PC := Lib.hid PC
                  clear hE
                  go_wp2_with fail
                  refine (PC.out _ x1 HT.out.is rA (by have := ML.out; omega)).mono ?_
                  rw [EQ.out, LQ.out]
                  rintro e v1 ⟨rfl, b1⟩
                  have HT := Lib.hid (HT.out.keep b1)
                  clear y0 y1 b1 
                  obtain ⟨y0, y1⟩ := HT.out.two
                  have s0 : IntKind.i64.wrap L = L := IntWalk.i64_in _ (by omega)
                  have s1 : IntKind.i64.wrap (F + L) = F + L := IntWalk.i64_in _ (by omega)
                  have s2 : IntKind.i64.wrap (F + L + C) = F + L + C := IntWalk.i64_in _ (by omega)
                  go_wp2_with fail
                  go_big_quiet (fail)
                  by_cases ov : F + L + C > F + W
                  · obtain rfl : E = F + W := by rw [EI.out, if_pos ov]
                    go_wp2
                    go_roundw
                    case rel => exact ⟨i + 1, ms, by omega, by omega, by go_num, ML, Lib.hid (HT.out.dbl.keep (below_drewN _ _))⟩
                    case measure => simp [intOf]; omega
                  · obtain rfl : E = F + L + C := by rw [EI.out, if_neg ov]
                    go_wp2
                    go_roundw
                    case rel => exact ⟨i + 1, ms, by omega, by omega, by go_num, ML, Lib.hid (HT.out.dbl.keep (below_drewN _ _))⟩
                    case measure => simp [intOf]; omega
                · by_cases rA : 0 ≤ x1
                  all_goals
                    go_wp2_with fail
                    refine (cPart_no b mb F W C _ _ x1 HT.out.is (by have := ML.out; omega)).mono ?_
                    rintro e v1 ⟨rfl, rfl⟩
                    go_wp2
                    go_roundw
                    case rel => exact ⟨i + 1, ms, by omega, by omega, by go_num, ML, Lib.hid HT.out.dbl⟩
                    case measure => simp [intOf]; omega
        · obtain ⟨inA, inB⟩ : F ≤ x1 ∧ x1 < F + W := by
            have h := HI.out
            rw [Bool.and_eq_true, decide_eq_true_eq, decide_eq_true_eq] at h
            exact h
          clear HI
          obtain ⟨j, hj⟩ : ∃ j : Nat, (x1 - F) / C = j := ⟨((x1 - F) / C).toNat, by have := Int.ediv_nonneg (a := x1 - F) (b := C) (by omega) (by omega); omega⟩
          have HJ := Lib.hid hj
          have s5 : IntKind.i64.wrap (x1 - F) = x1 - F := IntWalk.i64_in _ (by omega)
          have hd : (x1 - F).tdiv C = j := by rw [← hj]; exact Int.tdiv_eq_ediv_of_nonneg (by omega)
          have jl : (j : Int) < len := by
            have := HT.out.is.at_ inA inB
            rw [hj, ML.out] at this
            exact this.2
          clear hj
          go_upto_block 2 with (fail)
          go_cut [75] (fun _ wc => ∃ ms : List Bool, Hid (ms.length = len) ∧ Hid (Tri w wc b mb lb ab F W C x0 x1 ms ms))
          case first =>
            by_cases a0 : x0 = 0
            · as_aux_lemma =>
              subst a0
              obtain ⟨v, hv⟩ : ∃ v, ms[j]? = some v := ⟨_, List.getElem?_eq_getElem (by have := ML.out; omega)⟩
              have HV := Lib.hid hv
              clear hv
              go_wp2_with fail
              refine (cMark_yes b mb F W C _ _ x1 j HT.out.is inA inB HJ.out).mono ?_
              rintro e v1 ⟨rfl, t1⟩
              have HT := Lib.hid (HT.out.step t1)
              clear y0 y1 t1
              obtain ⟨y0, y1⟩ := HT.out.two
              obtain ⟨z0, z1⟩ := HT.out.flag HV.out
              have N1 := Lib.hid (HT.out.set j true)
              have M1 := Lib.hid (show (ms.set j true).length = len by rw [List.length_set]; exact ML.out)
              clear HT
              go_wp2
              go_meet
              case rel => exact ⟨_, M1, N1⟩
            · by_cases a1 : x0 = 1
              · as_aux_lemma =>
                subst a1
                clear a0
                by_cases rg : 0 ≤ x1 ∧ x1 < len
                · obtain ⟨rA, rB⟩ := rg
                  obtain ⟨k, rfl⟩ : ∃ k : Nat, x1 = k := ⟨x1.toNat, by omega⟩
                  obtain ⟨v, hv⟩ : ∃ v, ms[k]? = some v := ⟨_, List.getElem?_eq_getElem (by have := ML.out; omega)⟩
                  have HV := Lib.hid hv
                  obtain ⟨z0, z1⟩ := HT.out.flag hv
                  clear hv
                  cases v
                  · go_wp2_with fail
                    refine (cClear_yes b mb F W C _ _ k false HT.out.is HV.out).mono ?_
                    rintro e v1 ⟨rfl, t1⟩
                    rw [set_same HV.out] at t1
                    have HT := Lib.hid (HT.out.step t1)
                    clear y0 y1 t1 z0 z1
                    go_wp2
                    go_meet
                    case rel => exact ⟨_, ML, HT⟩
                  · go_wp2_with fail
                    refine (cClear_yes b mb F W C _ _ k true HT.out.is HV.out).mono ?_
                    rintro e v1 ⟨rfl, t1⟩
                    have HT := Lib.hid (HT.out.step t1)
                    clear y0 y1 t1 z0 z1
                    obtain ⟨y0, y1⟩ := HT.out.two
                    obtain ⟨z0, z1⟩ := HT.out.flag HV.out
                    have N1 := Lib.hid (HT.out.set k false)
                    have M1 := Lib.hid (show (ms.set k false).length = len by rw [List.length_set]; exact ML.out)
                    clear HT
                    go_wp2
                    go_meet
                    case rel => exact ⟨_, M1, N1⟩
                · have rA : 0 ≤ x1 := by omega
                  all_goals
                    go_wp2_with fail
                    refine (cClear_no b mb F W C _ _ x1 HT.out.is (by have := ML.out; omega)).mono ?_
                    rintro e v1 ⟨rfl, rfl⟩
                    clear y0 y1
                    go_wp2
                    go_meet
                    case rel => exact ⟨_, ML, HT⟩
              · have e0 : (x0 == 0) = false := beq_eq_false_iff_ne.2 a0
                have e1 : (x0 == 1) = false := beq_eq_false_iff_ne.2 a1
                go_wp2
                go_meet
                case rel => exact ⟨_, ML, HT⟩
          case rest =>
            as_aux_lemma =>
            clear ML HT y0 y1
            obtain ⟨ms, ML, HT⟩ := hcut
            obtain ⟨y0, y1⟩ := HT.out.two
            go_wp2_with fail
            generalize wc = wo at *
            go_loopw [18, 19, 20, 21] (fun s18 s19 s20 s21 wi => ∃ (k cnt : Nat) (r : Int) (ok : Bool), k ≤ len ∧ s21 = .int .i64 k ∧ s20 = .int .i64 cnt ∧ s18 = .int .i64 r ∧ s19 = .bool ok ∧ cnt ≤ k ∧ Hid (cntI ms k = cnt) ∧ Hid (FirstA (ms.take k) x1 r ok) ∧ wo = wi) (fun _ _ _ s _ => len - (intOf s).toNat)
            case atStart => exact ⟨0, 0, 0, false, Nat.zero_le _, rfl, rfl, rfl, rfl, Nat.le_refl _, Lib.hid (by simp [cntI]), Lib.hid (first_none ms x1), rfl⟩
            case round =>
              obtain ⟨k, cnt, r, ok, hk, rfl, rfl, rfl, rfl, hck, CN, FI, rfl⟩ := hrel
              by_cases hlt : k < len
              · as_aux_lemma =>
                obtain ⟨v, hv⟩ : ∃ v, ms[k]? = some v := ⟨_, List.getElem?_eq_getElem (by have := ML.out; omega)⟩
                obtain ⟨z0, z1⟩ := HT.out.flag hv
                have HV := Lib.hid hv
                clear hv
                cases v
                · have N1 := Lib.hid (show cntI ms (k + 1) = cnt by rw [cntI_next HV.out, CN.out]; rfl)
                  have N2 := Lib.hid (FI.out.stay HV.out (Or.inl rfl))
                  go_wp2
                  go_roundw
                  case rel => exact ⟨k + 1, cnt, r, ok, by omega, by go_num, rfl, rfl, rfl, by omega, N1, N2, by trivial⟩
                  case measure => simp [intOf]; omega
                · have N1 := Lib.hid (show cntI ms (k + 1) = cnt + 1 by rw [cntI_next HV.out, CN.out]; rfl)
                  by_cases hx : x1 ≤ k
                  · cases ok
                    · have N2 := Lib.hid (FI.out.hit HV.out hx)
                      go_wp2
                      go_roundw
                      case rel => exact ⟨k + 1, cnt + 1, k, true, by omega, by go_num, by go_num, rfl, rfl, by omega, N1, N2, by trivial⟩
                      case measure => simp [intOf]; omega
                    · have N2 := Lib.hid (FI.out.stay HV.out (Or.inr (Or.inr rfl)))
                      go_wp2
                      go_roundw
                      case rel => exact ⟨k + 1, cnt + 1, r, true, by omega, by go_num, by go_num, rfl, rfl, by omega, N1, N2, by trivial⟩
                      case measure => simp [intOf]; omega
                  · have N2 := Lib.hid (FI.out.stay HV.out (Or.inr (Or.inl (by omega))))
                    go_wp2
                    go_roundw
                    case rel => exact ⟨k + 1, cnt + 1, r, ok, by omega, by go_num, by go_num, rfl, rfl, by omega, N1, N2, by trivial⟩
                    case measure => simp [intOf]; omega
              · as_aux_lemma =>
                obtain rfl : k = len := by omega
                have CA := CN.out
                have FA := FI.out
                rw [← ML.out, cntI_all] at CA
                rw [← ML.out, List.take_length] at FA
                have CA := Lib.hid CA
                have FA := Lib.hid FA
                clear CN FI
                go_wp2_with fail
                refine (cFirst_any b mb F W C _ _ x1 HT.out.is (by omega)).mono ?_
                rintro e v1 ⟨r', ok', he, hf, rfl⟩
                obtain ⟨rfl, rfl⟩ := hf.one FA.out
                subst he
                clear hf
                go_wp2_with fail
                refine (cCount_any b mb F W C _ _ HT.out.is).mono ?_
                rw [CA.out]
                rintro e v1 ⟨rfl, rfl⟩
                go_wp2_with fail
                obtain ⟨v, hv⟩ : ∃ v, ms[j]? = some v := ⟨_, List.getElem?_eq_getElem (by have := ML.out; omega)⟩
                have HV := Lib.hid hv
                clear hv
                refine (cMarked_yes b mb F W C _ _ x1 j v HT.out.is inA inB HJ.out HV.out).mono ?_
                rintro e v1 ⟨rfl, b1⟩
                have HT := Lib.hid (HT.out.keep b1)
                clear y0 y1 b1
                obtain ⟨y0, y1⟩ := HT.out.two
                obtain ⟨z0, z1⟩ := HT.out.flag HV.out
                by_cases rg : 0 ≤ x1 ∧ x1 < k
                · obtain ⟨rA, rB⟩ := rg
                  have hp := HT.out.is.part rA (by have := ML.out; omega)
                  have PC := cPart_yes b mb F W C ms
                  have EI := Lib.hid (show endI F W C x1 = if F + x1 * C + C > F + W then F + W else F + x1 * C + C from rfl)
                  obtain ⟨L, hL⟩ : ∃ L, x1 * C = L := ⟨_, rfl⟩
                  obtain ⟨E, hE⟩ : ∃ E, endI F W C x1 = E := ⟨_, rfl⟩
                  rw [hL] at hp EI
                  rw [hE] at EI
                  obtain ⟨p0, p1⟩ := hp
                  have EQ := Lib.hid hE
                  have LQ := Lib.hid hL
                  have PC := Lib.hid PC
                  clear hE
                  go_wp2_with fail
                  refine (PC.out _ x1 HT.out.is rA (by have := ML.out; omega)).mono ?_
                  rw [EQ.out, LQ.out]
                  rintro e v1 ⟨rfl, b1⟩
                  have HT := Lib.hid (HT.out.keep b1)
                  clear y0 y1 b1 z0 z1
                  obtain ⟨y0, y1⟩ := HT.out.two
                  have s0 : IntKind.i64.wrap L = L := IntWalk.i64_in _ (by omega)
                  have s1 : IntKind.i64.wrap (F + L) = F + L := IntWalk.i64_in _ (by omega)
                  have s2 : IntKind.i64.wrap (F + L + C) = F + L + C := IntWalk.i64_in _ (by omega)
                  go_wp2_with fail
                  go_big_quiet (fail)
                  by_cases ov : F + L + C > F + W
                  · obtain rfl : E = F + W := by rw [EI.out, if_pos ov]
                    go_wp2
                    go_roundw
                    case rel => exact ⟨i + 1, ms, by omega, by omega, by go_num, ML, Lib.hid (HT.out.dbl.keep (below_drewN _ _))⟩
                    case measure => simp [intOf]; omega
                  · obtain rfl : E = F + L + C := by rw [EI.out, if_neg ov]
                    go_wp2
                    go_roundw
                    case rel => exact ⟨i + 1, ms, by omega, by omega, by go_num, ML, Lib.hid (HT.out.dbl.keep (below_drewN _ _))⟩
                    case measure => simp [intOf]; omega
                · have rA : 0 ≤ x1 := by omega
                  all_goals
                    go_wp2_with fail
                    refine (cPart_no b mb F W C _ _ x1 HT.out.is (by have := ML.out; omega)).mono ?_
                    rintro e v1 ⟨rfl, rfl⟩
                    go_wp2
                    go_roundw
                    case rel => exact ⟨i + 1, ms, by omega, by omega, by go_num, ML, Lib.hid HT.out.dbl⟩
                    case measure => simp [intOf]; omega
    · by_cases hin2 : i < n
      all_goals
        try have h60 : ¬ i < 60 := by omega
        go_wp2_with fail
        refine (awake_any _).mono ?_
        rintro e w4 ⟨rfl, b1⟩
        have HS := Lib.hid (HS.out.keep b1)
        clear b1
        go_wp2
        go_ret
        exact ⟨rfl, HS.out.ses.old⟩
end Go.Proofs.Ytckmijhmjnhfaaa


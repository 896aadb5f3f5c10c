/- GreyPlays: a stack of any size, by any calls: the walk. -/
import Derived.Test.YtbfgmpbbodlgiaaGrG
import Derived.Deep.DeepCutAuto
import Derived.Deep.CutBlock
namespace Go.Proofs.Ytbfgmpbbodlgiaa
open Go.RowKit Go.ChangeShapes Go.WideShapes

set_option maxRecDepth 100000 in
set_option maxHeartbeats 16000000 in
theorem greyPlays_walk (m : Int) (A : Option Addr) (n c : Nat) (w : World) (rd : RdAct11 w A n) (hn : n ≤ c) (hc : c ≤ maxLen) :
    Calls Try.prog 3 #[.int .i64 m, .slice A n c] w fun e w' => e = .returned (.bool true) ∧ Below w.heap.size w w' := by
  have nm : n ≤ 9223372036854775807 := by simp only [maxLen] at hc; omega
  have RD := Lib.hid rd
  clear rd hc hn
  go_enter Try.func3, Try.ntmps3
  go_wp2_with fail
  refine (gz_new (Z := noZ) m (Below.refl _ w) noZ_low).mono ?_
  rintro e w1 ⟨b, rfl, s, _⟩
  have HP := Lib.hid (Gp.fresh s)
  clear s
  unfold grP
  obtain ⟨M, hM⟩ : ∃ M, cutI m 0 1048576 = M := ⟨_, rfl⟩
  rw [hM] at HP
  have FI := Lib.hid (show ∀ N : Nat, N < 1048576 → ((N : Int) < M ↔ (N : Int) < m) from fun N h => by rw [← hM]; exact gr_fits h)
  clear hM
  go_wp2_with fail
  go_loopw [6, 7, 8] (fun s6 s7 s8 wr => ∃ (i N c2 : Nat) (A2 : Option Addr) (l : Bool) (ys : List Int), i ≤ n ∧ i ≤ 80 ∧ N ≤ 50 + i ∧ s6 = .slice A2 N c2 ∧ s7 = .bool l ∧ s8 = .int .i64 i ∧ Hid (Gp w wr b M l ys A2 N c2 ys)) (fun _ _ s8 _ => 80 - (intOf s8).toNat)
  case atStart => exact ⟨0, 0, 0, _, false, [], Nat.zero_le _, by omega, by omega, rfl, rfl, rfl, HP⟩
  case round =>
    clear HP
    obtain ⟨i, N, c2, A2, l, ys, hi, hk, hN, rfl, rfl, rfl, HB⟩ := hrel
    by_cases l1 : i < n
    · by_cases l2 : i < 80
      · as_aux_lemma =>
        obtain ⟨ad, x0, x1, L, md, d, lst, rfl, lm, dm, rl, rc⟩ := RD.out i l1
        obtain ⟨r0, r1, r2⟩ := rc _ HB.out.gz.bel
        have RL0 := Lib.hid rl
        have LN := Lib.hid (show ys.length = N from HB.out.row.len)
        have NF := Lib.hid (show N ≤ 1048576 by omega)
        have HD := Lib.hid (HB.out.act x0 x1 L md d)
        unfold maxLen at dm
        clear rl rc HB
        go_upto_region 7 with (fail)
        clear r0 r1 r2
        generalize wr.alloc (.cells #[.int .i64 x0, .int .i64 x1, .slice L md d] 27) = wd at HD ⊢
        generalize wr.heap.size = ab at HD ⊢
        obtain ⟨e0, e1, e2⟩ := HD.out.cells
        by_cases xz : x0 = 0
        · as_aux_lemma =>
          subst xz
          by_cases hf : (N : Int) < m
          · have HF := Lib.hid (show (ys.length : Int) < M from by rw [LN.out]; exact (FI.out N (by omega)).2 hf)
            go_wp2_with fail
            refine (gz_push_yes HD.out.gz HF.out x1).mono ?_
            rintro e w2 ⟨rfl, r, kp⟩
            rw [show decide ((N : Int) < 1048576) = true from decide_eq_true (by omega)]
            have HD := Lib.hid (HD.out.step r kp)
            clear r kp e0 e1 e2
            obtain ⟨e0, e1, e2⟩ := HD.out.cells
            have H2 := Lib.hid (HD.out.keep ((Below.refl _ _).alloc (Nat.le_refl _) (.cells #[.int .i64 x1] 3)))
            have E2 := Lib.hid (show (w2.alloc (.cells #[.int .i64 x1] 3)).cell? ⟨w2.heap.size, 0, none⟩ = some (.int .i64 x1) from (Blk.new w2 #[.int .i64 x1] 3).cell 0)
            clear e0 e2 HD HF
            go_wp2_with (first
              | (at_builtin; (refine wpList_append_qu _ rfl _ _ rfl H2.out.row NF.out x1 ⟨w2.heap.size, 0, none⟩ 1 rfl rfl E2.out ?_))
              | fail)
            intro A4 c4 w4 q g
            have HB := Lib.hid (H2.out.grown q g).done
            clear q g H2 E2 e1
            go_wp2_with fail
            refine (gz_lost HB.out.gz).mono ?_
            rintro e v1 ⟨rfl, rfl⟩
            go_wp2_with fail
            refine (gp_len HB.out).mono ?_
            rintro e v2 ⟨rfl, rfl⟩
            go_wp2_with fail
            refine (gp_all HB.out).mono ?_
            rintro e v3 ⟨A3, c3, rfl, q, s⟩
            have HB := Lib.hid s
            have HQ := Lib.hid q
            clear s q
            go_wp2_with fail
            refine (ints_qu _ _ _ _ _ _ _ HQ.out HB.out.row (by omega)).mono ?_
            rintro e v4 ⟨rfl, bb⟩
            have HB := Lib.hid (HB.out.keep bb)
            clear bb HQ
            go_wp2
            go_roundw
            case rel => exact ⟨i + 1, _, _, _, _, _, by omega, by omega, by omega, rfl, rfl, by go_num, HB⟩
            case measure => simp [intOf]; omega

          · have HF := Lib.hid (show M ≤ (ys.length : Int) from by rw [LN.out]; have := (FI.out N (by omega)); omega)
            go_wp2_with fail
            refine (gz_push_no HD.out.gz HF.out x1).mono ?_
            rintro e w2 ⟨rfl, r, kp⟩
            have HB := Lib.hid (HD.out.step r kp).done
            clear r kp e0 e1 e2 HD HF
            go_wp2_with fail
            refine (gz_lost HB.out.gz).mono ?_
            rintro e v1 ⟨rfl, rfl⟩
            go_wp2_with fail
            refine (gp_len HB.out).mono ?_
            rintro e v2 ⟨rfl, rfl⟩
            go_wp2_with fail
            refine (gp_all HB.out).mono ?_
            rintro e v3 ⟨A3, c3, rfl, q, s⟩
            have HB := Lib.hid s
            have HQ := Lib.hid q
            clear s q
            go_wp2_with fail
            refine (ints_qu _ _ _ _ _ _ _ HQ.out HB.out.row (by omega)).mono ?_
            rintro e v4 ⟨rfl, bb⟩
            have HB := Lib.hid (HB.out.keep bb)
            clear bb HQ
            go_wp2
            go_roundw
            case rel => exact ⟨i + 1, _, _, _, _, _, by omega, by omega, by omega, rfl, rfl, by go_num, HB⟩
            case measure => simp [intOf]; omega
        · by_cases xo : x0 = 1
          · as_aux_lemma =>
            subst xo
            clear xz
            rcases List.eq_nil_or_concat ys with hy | ⟨ys', y, hy⟩
            · subst hy
              obtain rfl : N = 0 := LN.out.symm
              go_wp2_with fail
              refine (gz_pop_no HD.out.gz).mono ?_
              rintro e w2 ⟨rfl, rfl⟩
              have HB := Lib.hid HD.out.done
              clear e0 e1 e2 HD
              go_wp2_with fail
              refine (gz_lost HB.out.gz).mono ?_
              rintro e v1 ⟨rfl, rfl⟩
              go_wp2_with fail
              refine (gp_len HB.out).mono ?_
              rintro e v2 ⟨rfl, rfl⟩
              go_wp2_with fail
              refine (gp_all HB.out).mono ?_
              rintro e v3 ⟨A3, c3, rfl, q, s⟩
              have HB := Lib.hid s
              have HQ := Lib.hid q
              clear s q
              go_wp2_with fail
              refine (ints_qu _ _ _ _ _ _ _ HQ.out HB.out.row (by omega)).mono ?_
              rintro e v4 ⟨rfl, bb⟩
              have HB := Lib.hid (HB.out.keep bb)
              clear bb HQ
              go_wp2
              go_roundw
              case rel => exact ⟨i + 1, _, _, _, _, _, by omega, by omega, by omega, rfl, rfl, by go_num, HB⟩
              case measure => simp [intOf]; omega

            · rw [List.concat_eq_append] at hy
              subst hy
              obtain ⟨N', rfl⟩ : ∃ N', N = N' + 1 := ⟨ys'.length, by have := LN.out; simp at this; omega⟩
              have LN2 := Lib.hid (show ys'.length = N' from by have := LN.out; simp at this; exact this)
              go_wp2_with fail
              refine (gz_pop_yes HD.out.gz).mono ?_
              rintro e w2 ⟨rfl, r, kp⟩
              have HD := Lib.hid (HD.out.step r kp)
              obtain ⟨g, off, rfl, hg, hx, hfz⟩ := HD.out.row.at_ (by omega)
              have x0 := hx N' y (by rw [← LN2.out]; simp)
              have HB := Lib.hid HD.out.but.done
              have le := HD.out.row.le
              have cm := HD.out.row.max
              unfold maxLen at cm
              clear r kp e0 e1 e2 HD hx hfz
              go_wp2_with fail
              refine (gz_lost HB.out.gz).mono ?_
              rintro e v1 ⟨rfl, rfl⟩
              go_wp2_with fail
              refine (gp_len HB.out).mono ?_
              rintro e v2 ⟨rfl, rfl⟩
              go_wp2_with fail
              refine (gp_all HB.out).mono ?_
              rintro e v3 ⟨A3, c3, rfl, q, s⟩
              have HB := Lib.hid s
              have HQ := Lib.hid q
              clear s q
              go_wp2_with fail
              refine (ints_qu _ _ _ _ _ _ _ HQ.out HB.out.row (by omega)).mono ?_
              rintro e v4 ⟨rfl, bb⟩
              have HB := Lib.hid (HB.out.keep bb)
              clear bb HQ
              go_wp2
              go_roundw
              case rel => exact ⟨i + 1, _, _, _, _, _, by omega, by omega, by omega, rfl, rfl, by go_num, HB⟩
              case measure => simp [intOf]; omega
          · by_cases xt : x0 = 2
            · as_aux_lemma =>
              subst xt
              clear xz xo
              go_wp2_with fail
              refine (gz_found HD.out.gz).mono ?_
              rintro e w2 ⟨rfl, r, kp⟩
              have HB := Lib.hid (HD.out.step r kp).done
              clear r kp e0 e1 e2 HD

              go_wp2_with fail
              refine (gz_lost HB.out.gz).mono ?_
              rintro e v1 ⟨rfl, rfl⟩
              go_wp2_with fail
              refine (gp_len HB.out).mono ?_
              rintro e v2 ⟨rfl, rfl⟩
              go_wp2_with fail
              refine (gp_all HB.out).mono ?_
              rintro e v3 ⟨A3, c3, rfl, q, s⟩
              have HB := Lib.hid s
              have HQ := Lib.hid q
              clear s q
              go_wp2_with fail
              refine (ints_qu _ _ _ _ _ _ _ HQ.out HB.out.row (by omega)).mono ?_
              rintro e v4 ⟨rfl, bb⟩
              have HB := Lib.hid (HB.out.keep bb)
              clear bb HQ
              go_wp2
              go_roundw
              case rel => exact ⟨i + 1, _, _, _, _, _, by omega, by omega, by omega, rfl, rfl, by go_num, HB⟩
              case measure => simp [intOf]; omega
            · as_aux_lemma =>
              by_cases big : md ≤ 50
              · have RL := Lib.hid (RL0.out.below HD.out.gz.bel)
                have LL := Lib.hid RL0.out.1
                have FR := Lib.hid (show 0 < md → ∀ ad, L = some ad → ad.block < w.heap.size ∨ (blkOf A2 = some ad.block ∨ ad.block = ab) from fun h ad e => .inl (RL0.out.low h e))
                have MM := Lib.hid (show md ≤ maxLen from by unfold maxLen; omega)
                have hM := HD.out.gz.few
                go_wp2_with fail
                refine (gz_put HD.out.gz RL.out MM.out FR.out).mono ?_
                rintro e w2 ⟨rfl, r, kp⟩
                have HD := Lib.hid (HD.out.step r kp).fresh
                clear r kp e0 e1 e2 RL FR MM
                obtain ⟨lo, hlo⟩ : ∃ lo, (l || decide (M < (md : Int))) = lo := ⟨_, rfl⟩
                rw [hlo] at HD
                have HLO := Lib.hid hlo
                clear hlo
                go_wp2_with fail
                go_loopw [6, 7, 13] (fun s6 s7 s13 wr => ∃ (k N2 c2 : Nat) (A2 : Option Addr) (lk : Bool), k ≤ md ∧ N2 ≤ k ∧ s6 = .slice A2 N2 c2 ∧ s7 = .bool lk ∧ s13 = .int .i64 k ∧ Hid (lk = (l || decide (M < (k : Int))) ∧ N2 = min k M.toNat) ∧ Hid (Gb w wr b M lo (lst.take M.toNat) A2 N2 c2 (lst.take (min k M.toNat)) ab x0 x1 L md d)) (fun _ _ s13 _ => md - (intOf s13).toNat)
                case atStart => exact ⟨0, 0, 0, _, l, Nat.zero_le _, Nat.le_refl _, rfl, rfl, rfl, Lib.hid ⟨by rw [decide_eq_false (by omega), Bool.or_false], by omega⟩, by rw [Nat.zero_min]; exact HD⟩
                case round =>
                  clear HD
                  obtain ⟨k, N2, c2, A2, lk, hk, hN2, rfl, rfl, rfl, HK, HD⟩ := hrel
                  obtain ⟨e0, e1, e2⟩ := HD.out.cells
                  by_cases kl : k < md
                  · have hx := List.getElem?_eq_getElem (l := lst) (i := k) (by have := LL.out; omega)
                    generalize lst[k]'(by have := LL.out; omega) = x at hx
                    obtain ⟨ld, rfl, hb, hc⟩ := RL0.out.2 k x hx
                    have hcell : wr.cell? (ld.add k) = some (.int .i64 x) := (HD.out.gz.bel.cell (p := ld.add k) (by rw [block_of_add]; exact hb)).trans hc
                    by_cases hf : (N2 : Int) < m
                    · have hfM : (N2 : Int) < M := (FI.out N2 (by omega)).2 hf
                      have kM : (k : Int) < M := by have := HK.out.2; omega
                      have HE := Lib.hid (show lst.take (min k M.toNat) ++ [x] = lst.take (min (k + 1) M.toNat) from by
                        rw [show min k M.toNat = k by omega, show min (k + 1) M.toNat = k + 1 by omega, gr_take hx])
                      have HK2 := Lib.hid (show lk = (l || decide (M < ((k + 1 : Nat) : Int))) ∧ N2 + 1 = min (k + 1) M.toNat from ⟨by rw [HK.out.1, decide_eq_false (by omega), decide_eq_false (by omega)], by have := HK.out.2; omega⟩)
                      have H2 := Lib.hid (HD.out.keep ((Below.refl _ _).alloc (Nat.le_refl _) (.cells #[.int .i64 x] 3)))
                      have E2 := Lib.hid (show (wr.alloc (.cells #[.int .i64 x] 3)).cell? ⟨wr.heap.size, 0, none⟩ = some (.int .i64 x) from (Blk.new wr #[.int .i64 x] 3).cell 0)
                      clear hx hb hc HD HK e0 e1 hfM kM
                      go_wp2_with (first
                        | (at_builtin; (refine wpList_append_qu _ rfl _ _ rfl H2.out.row (by omega) x ⟨wr.heap.size, 0, none⟩ 1 rfl rfl E2.out ?_))
                        | fail)
                      intro A4 c4 w4 q g
                      have HD := H2.out.grown q g
                      rw [HE.out] at HD
                      have HD := Lib.hid HD
                      clear q g H2 E2 e2 hcell
                      go_wp2
                      go_roundw
                      case rel => exact ⟨k + 1, _, _, _, _, by omega, by omega, rfl, rfl, by go_num, HK2, HD⟩
                      case measure => simp [intOf]; omega
                    · have hfM : M ≤ (N2 : Int) := by have := (FI.out N2 (by omega)); omega
                      have HE := Lib.hid (show lst.take (min k M.toNat) = lst.take (min (k + 1) M.toNat) from by
                        have := HK.out.2; rw [show min k M.toNat = min (k + 1) M.toNat by omega])
                      have HK2 := Lib.hid (show true = (l || decide (M < ((k + 1 : Nat) : Int))) ∧ N2 = min (k + 1) M.toNat from ⟨by rw [decide_eq_true (by omega), Bool.or_true], by have := HK.out.2; omega⟩)
                      have HD := HD.out
                      rw [HE.out] at HD
                      have HD := Lib.hid HD
                      clear hx hb hc HK e0 e1 hfM hcell
                      go_wp2
                      go_roundw
                      case rel => exact ⟨k + 1, _, _, _, _, by omega, by omega, rfl, rfl, by go_num, HK2, HD⟩
                      case measure => simp [intOf]; omega
                  · obtain rfl : md = k := by omega
                    have el : lst.take (min md M.toNat) = lst.take M.toNat := by
                      rw [← LL.out, Nat.min_comm, ← List.take_take, List.take_length]
                    obtain rfl : lk = lo := by rw [HK.out.1, HLO.out]
                    have HB := HD.out.done
                    rw [el] at HB
                    have HB := Lib.hid HB
                    clear HK HD HLO el e0 e1
                    go_wp2_with fail
                    refine (gz_lost HB.out.gz).mono ?_
                    rintro e v1 ⟨rfl, rfl⟩
                    go_wp2_with fail
                    refine (gp_len HB.out).mono ?_
                    rintro e v2 ⟨rfl, rfl⟩
                    go_wp2_with fail
                    refine (gp_all HB.out).mono ?_
                    rintro e v3 ⟨A3, c3, rfl, q, s⟩
                    have HB := Lib.hid s
                    have HQ := Lib.hid q
                    clear s q
                    go_wp2_with fail
                    refine (ints_qu _ _ _ _ _ _ _ HQ.out HB.out.row (by omega)).mono ?_
                    rintro e v4 ⟨rfl, bb⟩
                    have HB := Lib.hid (HB.out.keep bb)
                    clear bb HQ
                    go_wp2
                    go_roundw
                    case rel => exact ⟨i + 1, _, _, _, _, _, by omega, by omega, by omega, rfl, rfl, by go_num, HB⟩
                    case measure => simp [intOf]; omega

              · have HB := Lib.hid HD.out.done
                go_wp2
                go_roundw
                case rel => exact ⟨i + 1, _, _, _, _, _, by omega, by omega, by omega, rfl, rfl, by go_num, HB⟩
                case measure => simp [intOf]; omega
      · obtain rfl : i = 80 := by omega
        go_wp2_with fail
        refine (grAwake_walk wr).mono ?_
        rintro e w3 ⟨rfl, bb⟩
        have HE := Lib.hid (HB.out.keep bb)
        clear bb
        go_wp2
        go_ret
        exact ⟨rfl, HE.out.gz.bel⟩
    · obtain rfl : i = n := by omega
      go_wp2_with fail
      refine (grAwake_walk wr).mono ?_
      rintro e w3 ⟨rfl, bb⟩
      have HE := Lib.hid (HB.out.keep bb)
      clear bb
      go_wp2
      go_ret
      exact ⟨rfl, HE.out.gz.bel⟩
end Go.Proofs.Ytbfgmpbbodlgiaa

/- The walk of RemsetPlays. -/
import Derived.Test.YtfjojpfknjdjiaaRemQ
namespace Go.Proofs.Ytfjojpfknjdjiaa
open Go.RowKit

set_option maxHeartbeats 16000000 in
set_option maxRecDepth 100000 in
theorem remsetPlays_walk (a0 a1 a2 a3 : Int) (A : Option Addr) (n c : Nat) (h0 : 0 ≤ a0) (h0' : a0 ≤ 65535) (h1 : 0 ≤ a1) (h2 : 0 ≤ a2) (h3 : 0 ≤ a3) (w : World) (rd : RdA w A n) (hn : n ≤ c) (hc : c ≤ maxLen) :
    Calls Try.prog 3 #[.int .u16 a0, .int .u16 a1, .int .u16 a2, .int .u16 a3, .slice A n c] w fun e w' => e = .returned (.bool true) ∧ Below w.heap.size w w' := by
  have nm : n ≤ 9223372036854775807 := by simp only [maxLen] at hc; omega
  have RD := Lib.hid rd
  clear rd hc hn
  obtain ⟨W, hW, W0, W1⟩ : ∃ W, a1 % 2000 = W ∧ 0 ≤ W ∧ W < 2000 := ⟨_, rfl, Int.emod_nonneg _ (by omega), Int.emod_lt_of_pos _ (by omega)⟩
  obtain ⟨D, hD, D0, D1⟩ : ∃ D, a2 % 300 = D ∧ 0 ≤ D ∧ D < 300 := ⟨_, rfl, Int.emod_nonneg _ (by omega), Int.emod_lt_of_pos _ (by omega)⟩
  obtain ⟨M, hM, M0, M1⟩ : ∃ M, a3 % 20 = M ∧ 0 ≤ M ∧ M < 20 := ⟨_, rfl, Int.emod_nonneg _ (by omega), Int.emod_lt_of_pos _ (by omega)⟩
  have hW2 : a1.tmod 2000 = W := by rw [← hW]; exact Int.tmod_eq_emod_of_nonneg h1
  have hD2 : a2.tmod 300 = D := by rw [← hD]; exact Int.tmod_eq_emod_of_nonneg h2
  have hM2 : a3.tmod 20 = M := by rw [← hM]; exact Int.tmod_eq_emod_of_nonneg h3
  have HW := Lib.hid (cutI_id (n := W) (l := 0) (m := 1048576) (by omega) (by omega))
  have HM := Lib.hid (cutI_id (n := M) (l := 0) (m := 1048576) (by omega) (by omega))
  have HF := Lib.hid (cutI_id (n := a0) (l := 0) (m := 1048576) (by omega) (by omega))
  obtain ⟨C, hC⟩ : ∃ C, cutI D 1 1048576 = C := ⟨_, rfl⟩
  have C0 : 1 ≤ C := by rw [← hC]; exact (cutI_in (by omega)).1
  have C1 : C ≤ 300 := by rw [← hC]; unfold cutI; split <;> (try split) <;> omega
  have HC := Lib.hid hC
  have w16 : IntKind.u16.wrap W = W := by rw [IntWalk.u16_in _ (by omega)]
  have d16 : IntKind.u16.wrap D = D := by rw [IntWalk.u16_in _ (by omega)]
  have m16 : IntKind.u16.wrap M = M := by rw [IntWalk.u16_in _ (by omega)]
  have wi : IntKind.i64.wrap W = W := IntWalk.i64_in _ (by omega)
  have di : IntKind.i64.wrap D = D := IntWalk.i64_in _ (by omega)
  have mi : IntKind.i64.wrap M = M := IntWalk.i64_in _ (by omega)
  clear hW hD hM hC
  go_enter Try.func3, Try.ntmps3
  go_wp2_with fail
  refine (rz_new (Z := noZ) a0 W D M (Below.refl _ w) (fun k hk => hk.elim)).mono ?_
  rintro e w1 ⟨s, rfl, r, _⟩
  rw [HW.out, HM.out, HF.out, HC.out] at r
  have HR := Lib.hid r
  clear r HW HM HF
  unfold ptr
  go_upto_if 47 with (fail)
  go_cut [13] (fun t wc => t = .int .i64 C ∧ w1 = wc)
  case first =>
    by_cases dz : D < 1
    · have e : C = 1 := by rw [← HC.out]; unfold cutI; rw [if_pos dz]
      subst e
      go_wp2
      go_meet
      case rel => exact ⟨rfl, rfl⟩
    · have e : C = D := by rw [← HC.out]; exact cutI_id (by omega) (by omega)
      subst e
      go_wp2
      go_meet
      case rel => exact ⟨rfl, rfl⟩
  case rest =>
    as_aux_lemma =>
    obtain ⟨rfl, rfl⟩ := hcut
    clear HC hD2 d16 di hW2 hM2 w16 m16 wi mi
    have q0 : 0 ≤ W / C := Int.ediv_nonneg (by omega) (by omega)
    have q1 : W / C ≤ 2000 := Int.le_trans (Int.ediv_le_self _ W0) (by omega)
    have cl := ceil_le (W := W) C0
    obtain ⟨L, hL⟩ : ∃ L : Nat, W / C + 1 = L := ⟨(W / C + 1).toNat, by omega⟩
    have hd : W.tdiv C = (L : Int) - 1 := by rw [Int.tdiv_eq_ediv_of_nonneg W0]; omega
    have lw : IntKind.i64.wrap ((L : Int) - 1) = (L : Int) - 1 := IntWalk.i64_in _ (by omega)
    have lw2 : IntKind.i64.wrap ((L : Int) - 1 + 1) = (L : Int) := by rw [IntWalk.i64_in _ (by omega)]; omega
    have L1 : L ≤ 2001 := by omega
    have hmk := run_make_bool (L : Int) (by omega) (by omega)
    rw [Int.toNat_natCast] at hmk
    have NL : Hid (nmI W C ≤ L) := Lib.hid (by unfold nmI; omega)
    clear hL q0 q1 cl
    go_upto_region 7 with (fail)
    go_cut [17] (fun t wc => t = .pointer (some ⟨w1.heap.size + 1, 0, none⟩) ∧ ∃ g0 g1, Hid (Ml w wc s M a0 W C w1.heap.size (w1.heap.size + 1) L [] (List.replicate (nmI W C) false) [] (List.replicate (nmI W C) false) none 0 0 none 0 0 g0 g1))
    case first =>
      as_aux_lemma =>
      go_wp2_with fail
      go_region
      all_goals
        go_wp2
        go_meet
        case rel => exact ⟨rfl, _, _, Lib.hid (ml_start HR.out NL.out _ _ (by omega))⟩
    case rest =>
      as_aux_lemma =>
      obtain ⟨rfl, g0, g1, HL0⟩ := hcut
      have HL : Hid (Lh w wc s M a0 W C w1.heap.size (w1.heap.size + 1) L) := Lib.hid ⟨_, _, _, _, _, _, _, _, _, _, _, _, HL0.out⟩
      clear HL0 HR
      generalize w1.heap.size + 1 = Q at *
      generalize w1.heap.size = R at *
      have f1 : a0 + W ≤ 67535 := by omega
      obtain ⟨F, eF⟩ : ∃ F, a0 = F := ⟨_, rfl⟩
      subst eF
      go_wp2_with fail
      go_loopw [18] (fun t wr => ∃ i : Nat, i ≤ n ∧ i ≤ 80 ∧ t = .int .i64 i ∧ Hid (Lh w wr s M a0 W C R Q L)) (fun t _ => 80 - (intOf t).toNat)
      case atStart => exact ⟨0, Nat.zero_le _, by omega, rfl, HL⟩
      case round =>
        clear HL
        obtain ⟨i, hin, hi8, rfl, HL⟩ := hrel
        by_cases il : i < n
        · by_cases i8 : i < 80
          · as_aux_lemma =>
            obtain ⟨ad, x0, x1, rfl, y0, y1, rc⟩ := RD.out i il
            obtain ⟨xs, ms, ys, ns, A0, n0, c0, A1, n1, c1, g0, g1, hl⟩ := HL.out
            obtain ⟨r0, r1⟩ := rc _ hl.rz.bel
            have HD := Lib.hid (hl.act x0 x1)
            have hfa := hl.rz.facts
            have ln0 : n0 = ys.length := hl.mh.q0.len.symm
            have ln1 : n1 = xs.length := hl.mh.q1.len.symm
            have N0 : n0 ≤ 20 := by have := hfa.2.2.2; omega
            have N1 : n1 ≤ 20 := by have := hfa.2.2.1; omega
            have LN0 := Lib.hid ln0
            have LN1 := Lib.hid ln1
            have LL0 := Lib.hid hl.mh.l0
            have LL1 := Lib.hid hl.mh.l1
            have PL := Lib.hid (show ms.length ≤ L ∧ ns.length ≤ L from by have := hfa.2.1; have := NL.out; unfold nmI at this; omega)
            clear rc HL hl hfa ln0 ln1
            go_upto_region 12 with (fail)
            clear r0 r1
            generalize wr.alloc (.cells #[.int .i64 x0, .int .i64 x1] 31) = wd at HD ⊢
            generalize wr.heap.size = ab at HD ⊢
            obtain ⟨e0, e1, e2, e3, ef, eg⟩ := HD.out.mh.cells
            go_wp2_with fail
            go_big_quiet (fail)
            generalize hWd : wd.drewN _ = w2
            have HD := Lib.hid (HD.out.keep (hWd ▸ below_drewN _ _))
            clear hWd e0 e1 e2 e3 ef eg
            obtain ⟨e0, e1, e2, e3, ef, eg⟩ := HD.out.mh.cells
            obtain ⟨Lf, hLf⟩ : ∃ Lf, xs.length + ms.count true = Lf := ⟨_, rfl⟩
            obtain ⟨Hf, hHf⟩ : ∃ Hf, ys.length + ns.count true = Hf := ⟨_, rfl⟩
            have EL := Lib.hid (show n1 + cntI (pad L ms) L = Lf by have h := cntI_all (pad L ms); rw [LL1.out, pad_count] at h; rw [h, LN1.out]; exact hLf)
            have EH := Lib.hid (show n0 + cntI (pad L ns) L = Hf by have h := cntI_all (pad L ns); rw [LL0.out, pad_count] at h; rw [h, LN0.out]; exact hHf)
            have HLf := Lib.hid hLf
            have HHf := Lib.hid hHf
            clear hLf hHf
            go_wp2_with fail
            go_loopw [20, 21, 22] (fun a b k wr => ∃ j l h : Nat, j ≤ L ∧ k = .int .i64 j ∧ a = .int .i64 l ∧ b = .int .i64 h ∧ l ≤ n1 + j ∧ h ≤ n0 + j ∧ Hid (n1 + cntI (pad L ms) j = l ∧ n0 + cntI (pad L ns) j = h) ∧ w2 = wr) (fun _ _ k _ => L - (intOf k).toNat)
            case atStart => exact ⟨0, n1, n0, Nat.zero_le _, rfl, rfl, rfl, by omega, by omega, Lib.hid (by simp [cntI]), rfl⟩
            case round =>
              obtain ⟨j, l, h, hj, rfl, rfl, rfl, hl, hh, HT, rfl⟩ := hrel
              by_cases jl : j < L
              · obtain ⟨v1, hv1⟩ : ∃ v, (pad L ms)[j]? = some v := ⟨_, List.getElem?_eq_getElem (by rw [LL1.out]; exact jl)⟩
                obtain ⟨v0, hv0⟩ : ∃ v, (pad L ns)[j]? = some v := ⟨_, List.getElem?_eq_getElem (by rw [LL0.out]; exact jl)⟩
                have cm1 := HD.out.mh.b1.bools hv1
                have cm0 := HD.out.mh.b0.bools hv0
                have T1 := Lib.hid (cntI_next hv1)
                have T0 := Lib.hid (cntI_next hv0)
                clear hv1 hv0
                cases v1
                · cases v0
                  · have N2 := Lib.hid (show n1 + cntI (pad L ms) (j + 1) = l ∧ n0 + cntI (pad L ns) (j + 1) = h by rw [T1.out, T0.out]; exact HT.out)
                    go_wp2
                    go_roundw
                    case rel => exact ⟨j + 1, l, h, by omega, by go_num, rfl, rfl, by omega, by omega, N2, by trivial⟩
                    case measure => simp [intOf]; omega
                  · have N2 := Lib.hid (show n1 + cntI (pad L ms) (j + 1) = l ∧ n0 + cntI (pad L ns) (j + 1) = h + 1 by rw [T1.out, T0.out]; have := HT.out; simp; omega)
                    go_wp2
                    go_roundw
                    case rel => exact ⟨j + 1, l, h + 1, by omega, by go_num, rfl, by go_num, by omega, by omega, N2, by trivial⟩
                    case measure => simp [intOf]; omega
                · cases v0
                  · have N2 := Lib.hid (show n1 + cntI (pad L ms) (j + 1) = l + 1 ∧ n0 + cntI (pad L ns) (j + 1) = h by rw [T1.out, T0.out]; have := HT.out; simp; omega)
                    go_wp2
                    go_roundw
                    case rel => exact ⟨j + 1, l + 1, h, by omega, by go_num, by go_num, rfl, by omega, by omega, N2, by trivial⟩
                    case measure => simp [intOf]; omega
                  · have N2 := Lib.hid (show n1 + cntI (pad L ms) (j + 1) = l + 1 ∧ n0 + cntI (pad L ns) (j + 1) = h + 1 by rw [T1.out, T0.out]; have := HT.out; simp; omega)
                    go_wp2
                    go_roundw
                    case rel => exact ⟨j + 1, l + 1, h + 1, by omega, by go_num, by go_num, by go_num, by omega, by omega, N2, by trivial⟩
                    case measure => simp [intOf]; omega
              · obtain rfl : L = j := by omega
                obtain rfl : Lf = l := by have := HT.out.1; have := EL.out; omega
                obtain rfl : Hf = h := by have := HT.out.2; have := EH.out; omega
                clear HT EL EH
                go_wp2_with fail
                refine (rz_left HD.out.rz).mono ?_
                rw [HLf.out]
                rintro e v1 ⟨rfl, r, kp⟩
                have HD := Lib.hid (HD.out.step r kp)
                clear r kp e0 e1 e2 e3 ef eg
                go_wp2_with fail
                refine (rz_len HD.out.rz).mono ?_
                rw [HHf.out]
                rintro e v2 ⟨rfl, r, kp⟩
                have HD := Lib.hid (HD.out.step r kp)
                clear r kp
                obtain ⟨z0, z1⟩ := HD.out.two
                have sF : IntKind.i64.wrap (a0 + W) = a0 + W := IntWalk.i64_in _ (by omega)
                have hRlt := Lib.hid HD.out.mh.rows.lt
                by_cases xz : x0 = 0
                ·
                  as_aux_lemma =>
                  subst xz
                  by_cases in0 : a0 ≤ x1
                  · by_cases in1 : x1 < a0 + W
                    · by_cases full : (n0 : Int) < M
                      · go_wp2_with fail
                        refine (rz_add_put x1 HD.out.rz in0 in1 (by rw [← LN0.out]; exact full)).mono ?_
                        rintro e v3 ⟨rfl, r, kp⟩
                        have HD := Lib.hid (HD.out.step r kp)
                        clear r kp z0 z1
                        obtain ⟨z0, z1⟩ := HD.out.two
                        obtain ⟨e0, e1, e2, e3, ef, eg⟩ := HD.out.mh.cells
                        clear e1 e2 e3 eg z0
                        have hlt := HD.out.mh.rows.lt
                        have H2 := Lib.hid (HD.out.keep ((Below.refl _ _).alloc (Nat.le_refl _) (.cells #[.int .i64 x1] 3)))
                        have E2 := Lib.hid (show (v3.alloc (.cells #[.int .i64 x1] 3)).cell? ⟨v3.heap.size, 0, none⟩ = some (.int .i64 x1) from (Blk.new v3 #[.int .i64 x1] 3).cell 0)
                        go_wp2_with (first
                          | (at_builtin; (refine wpList_append_qu _ rfl _ _ rfl H2.out.mh.q0 (by omega) x1 ⟨v3.heap.size, 0, none⟩ 1 rfl rfl E2.out ?_))
                          | fail)
                        intro A' c' w3 q g
                        have kr := H2.out.mh.rows.frm g.frm (H2.out.mh.q0.ne_ H2.out.mh.rows (by decide))
                        have f2 : w3.frozen? ⟨R, 0, none⟩ = false := kr.frozen 0
                        have x2 : w3.cell? ⟨R, 0, none⟩ = some (.slice A0 n0 c0) := kr.cell 0
                        have HN := Lib.hid (show Lh w (w3.setCell ⟨R, 0, none⟩ (.slice A' (n0 + 1) c')) s M a0 W C R Q L from ⟨_, _, _, _, _, _, _, _, _, _, _, _, (H2.out.write (H2.out.mh.app q g)).done⟩)
                        clear q g kr H2 HD E2 e0 ef z1 hlt
                        go_wp2
                        go_roundw
                        case rel => exact ⟨i + 1, by omega, by omega, by go_num, HN⟩
                        case measure => simp [intOf]; omega
                      · obtain ⟨k, hk⟩ : ∃ k : Nat, (x1 - a0) / C = k := ⟨((x1 - a0) / C).toNat, by have := (HD.out.rz.at_ in0 in1).1; omega⟩
                        have kn : k < ns.length := by have := (HD.out.rz.at_ in0 in1).2; omega
                        have kL : k < L := by have := PL.out.2; omega
                        have s5 : IntKind.i64.wrap (x1 - a0) = x1 - a0 := IntWalk.i64_in _ (by omega)
                        have hd5 : (x1 - a0).tdiv C = k := by rw [← hk]; exact Int.tdiv_eq_ediv_of_nonneg (by omega)
                        have s6 : IntKind.i64.wrap (k : Int) = k := IntWalk.i64_in _ (by omega)
                        have cz : ¬ C = 0 := by omega
                        have cz2 : (C == 0) = false := by simp; omega
                        have HK := Lib.hid hk
                        have HP := Lib.hid (pad_set (L := L) kn true)
                        clear hk
                        go_wp2_with fail
                        refine (rz_add_mark x1 k HD.out.rz in0 in1 (by rw [← LN0.out]; omega) HK.out).mono ?_
                        rintro e v3 ⟨rfl, r, kp⟩
                        have HD := Lib.hid (HD.out.step r kp)
                        clear r kp z0 z1
                        obtain ⟨z0, z1⟩ := HD.out.two
                        obtain ⟨e0, e1, e2, e3, ef, eg⟩ := HD.out.mh.cells
                        obtain ⟨v, hv⟩ : ∃ v, (pad L ns)[k]? = some v := ⟨_, List.getElem?_eq_getElem (by rw [LL0.out]; exact kL)⟩
                        have cm := HD.out.mh.b0.bools hv
                        have cf := HD.out.mh.b0.frozen
                        have ne1 : g0 ≠ Q := Blk.ne_ HD.out.mh.b0 HD.out.mh.mks (by decide)
                        have ne2 : g0 ≠ ab := Blk.ne_ HD.out.mh.b0 HD.out.box (by decide)
                        have lt1 := HD.out.mh.b0.lt
                        clear e1 e3 ef eg z0 hv
                        go_wp2_with fail
                        clear e0
                        go_region
                        all_goals
                          have hw := HD.out.write ⟨(HD.out.mh.mk0 k true).1, (HD.out.mh.mk0 k true).2, fun _ e => .inl e⟩
                          rw [HP.out] at hw
                          have HN := Lib.hid (show Lh w (v3.setCell ⟨g0, k, none⟩ (.bool true)).drew s M a0 W C R Q L from ⟨_, _, _, _, _, _, _, _, _, _, _, _, (hw.keep (below_drew _)).done⟩)
                          clear hw HD HP HK cm cf e2 z1
                          go_wp2
                          go_roundw
                          case rel => exact ⟨i + 1, by omega, by omega, by go_num, HN⟩
                          case measure => simp [intOf]; omega
                    · go_wp2_with fail
                      refine (rz_add_no x1 HD.out.rz (by omega)).mono ?_
                      rintro e v3 ⟨rfl, rfl⟩
                      have HN := Lib.hid (show Lh w v2 s M a0 W C R Q L from ⟨_, _, _, _, _, _, _, _, _, _, _, _, HD.out.done⟩)
                      go_wp2
                      go_roundw
                      case rel => exact ⟨i + 1, by omega, by omega, by go_num, HN⟩
                      case measure => simp [intOf]; omega
                  · go_wp2_with fail
                    refine (rz_add_no x1 HD.out.rz (by omega)).mono ?_
                    rintro e v3 ⟨rfl, rfl⟩
                    have HN := Lib.hid (show Lh w v2 s M a0 W C R Q L from ⟨_, _, _, _, _, _, _, _, _, _, _, _, HD.out.done⟩)
                    go_wp2
                    go_roundw
                    case rel => exact ⟨i + 1, by omega, by omega, by go_num, HN⟩
                    case measure => simp [intOf]; omega
                · by_cases xo : x0 = 1
                  ·
                    as_aux_lemma =>
                    subst xo
                    clear xz
                    by_cases lz : Lf = 0
                    · subst lz
                      go_wp2_with fail
                      refine (rz_flip_yes HD.out.rz HLf.out).mono ?_
                      rintro e v3 ⟨rfl, r, kp⟩
                      have HD := Lib.hid (HD.out.step r kp)
                      clear r kp z0 z1
                      obtain ⟨e0, e1, e2, e3, ef, eg⟩ := HD.out.mh.cells
                      have ne1 : R ≠ Q := Blk.ne_ HD.out.mh.rows HD.out.mh.mks (by decide)
                      have ne2 : Q ≠ R := Ne.symm ne1
                      have lt1 := HD.out.mh.rows.lt
                      have lt2 := HD.out.mh.mks.lt
                      have cz : ¬ C = 0 := by omega
                      have cz2 : (C == 0) = false := by simp; omega
                      have hrows := HD.out.mh.rows
                      have hmks := HD.out.mh.mks
                      go_wp2_with fail
                      go_region
                      have kr := ((hrows.set_ 1 (.slice A0 n0 c0)).far (p := ⟨Q, 1, none⟩) ne1 (.slice (some ⟨g0, 0, none⟩) L L)).drew
                      have km := ((hmks.far (p := ⟨R, 1, none⟩) ne2 (.slice A0 n0 c0)).set_ 1 (.slice (some ⟨g0, 0, none⟩) L L)).drew
                      have fr := (((Frm.refl (fun k => k = R ∨ k = Q) v3).setCell (p := ⟨R, 1, none⟩) (fun _ => .inl rfl) (.slice A0 n0 c0)).setCell (p := ⟨Q, 1, none⟩) (fun _ => .inr rfl) (.slice (some ⟨g0, 0, none⟩) L L)).drew
                      clear e0 e1 e2 e3 ef eg hrows hmks
                      generalize ((v3.setCell ⟨R, 1, none⟩ (.slice A0 n0 c0)).setCell ⟨Q, 1, none⟩ (.slice (some ⟨g0, 0, none⟩) L L)).drew = v4 at kr km fr ⊢
                      have kr : Blk v4 R #[.slice A0 n0 c0, .slice A0 n0 c0] 27 := kr
                      have km : Blk v4 Q #[.slice (some ⟨g0, 0, none⟩) L L, .slice (some ⟨g0, 0, none⟩) L L] 29 := km
                      have e0 := kr.cell 0
                      have e2 := km.cell 0
                      have ef := kr.frozen
                      have eg := km.frozen
                      have lt1 := kr.lt
                      have lt2 := km.lt
                      have KR := Lib.hid kr
                      have KM := Lib.hid km
                      have FR := Lib.hid fr
                      clear kr km fr
                      go_wp2_with fail
                      go_region
                      have e9 : Array.replicate L (Value.bool false) = ((List.replicate L false).map Value.bool).toArray := by simp
                      have nb := (Blk.new ((v4.setCell ⟨R, 0, none⟩ (.slice none 0 0)).setCell ⟨Q, 0, none⟩ (.slice (some ⟨v4.heap.size, 0, none⟩) L L)) (Array.replicate L (Value.bool false)) 4).drew
                      have nr := (((KR.out.set_ 0 (.slice none 0 0)).far (p := ⟨Q, 0, none⟩) ne1 (.slice (some ⟨v4.heap.size, 0, none⟩) L L)).alloc (.cells (Array.replicate L (Value.bool false)) 4)).drew
                      have nq := (((KM.out.far (p := ⟨R, 0, none⟩) ne2 (.slice none 0 0)).set_ 0 (.slice (some ⟨v4.heap.size, 0, none⟩) L L)).alloc (.cells (Array.replicate L (Value.bool false)) 4)).drew
                      have nf := (((FR.out.setCell (p := ⟨R, 0, none⟩) (fun _ => .inl rfl) (.slice none 0 0)).setCell (p := ⟨Q, 0, none⟩) (fun _ => .inr rfl) (.slice (some ⟨v4.heap.size, 0, none⟩) L L)).alloc (.cells (Array.replicate L (Value.bool false)) 4)).drew
                      have sz : ((v4.setCell ⟨R, 0, none⟩ (.slice none 0 0)).setCell ⟨Q, 0, none⟩ (.slice (some ⟨v4.heap.size, 0, none⟩) L L)).heap.size = v4.heap.size := by simp
                      rw [sz] at nb
                      generalize (((v4.setCell ⟨R, 0, none⟩ (.slice none 0 0)).setCell ⟨Q, 0, none⟩ (.slice (some ⟨v4.heap.size, 0, none⟩) L L)).alloc (.cells (Array.replicate L (Value.bool false)) 4)).drew = v5 at nb nr nq nf ⊢
                      rw [e9] at nb
                      have HN := Lib.hid (show Lh w v5 s M a0 W C R Q L by
                        have h := HD.out.write (HD.out.mh.turn (g := v4.heap.size) nf FR.out.size nr nq nb)
                        rw [← pad_none _ _ NL.out] at h
                        exact ⟨_, _, _, _, _, _, _, _, _, _, _, _, h.done⟩)
                      clear e9 nb nr nq nf sz HD KR KM FR e0 e2 ef eg
                      go_wp2
                      go_roundw
                      case rel => exact ⟨i + 1, by omega, by omega, by go_num, HN⟩
                      case measure => simp [intOf]; omega
                    · go_wp2_with fail
                      refine (rz_flip_no HD.out.rz (by rw [HLf.out]; omega)).mono ?_
                      rintro e v3 ⟨rfl, r, kp⟩
                      have HN := Lib.hid (show Lh w v3 s M a0 W C R Q L from ⟨_, _, _, _, _, _, _, _, _, _, _, _, (HD.out.step r kp).done⟩)
                      clear r kp z0 z1
                      go_wp2
                      go_roundw
                      case rel => exact ⟨i + 1, by omega, by omega, by go_num, HN⟩
                      case measure => simp [intOf]; omega
                  ·
                    as_aux_lemma =>
                    by_cases lz : Lf = 0
                    · subst lz
                      go_wp2_with fail
                      refine (rz_next_none HD.out.rz HLf.out).mono ?_
                      rintro e v3 ⟨rfl, r, kp⟩
                      have HN := Lib.hid (show Lh w v3 s M a0 W C R Q L from ⟨_, _, _, _, _, _, _, _, _, _, _, _, (HD.out.step r kp).done⟩)
                      clear r kp z0 z1
                      go_wp2
                      go_roundw
                      case rel => exact ⟨i + 1, by omega, by omega, by go_num, HN⟩
                      case measure => simp [intOf]; omega
                    · have lp : (0 : Int) < (Lf : Int) := by omega
                      have lp1 : decide ((Lf : Int) > 0) = true := decide_eq_true lp
                      have lp2 : decide ((0 : Int) < (Lf : Int)) = true := decide_eq_true lp
                      have lp3 : 0 < Lf := by omega
                      have lp4 : decide (0 < Lf) = true := decide_eq_true lp3
                      cases xs with
                      | cons y xs =>
                        obtain ⟨k, hk⟩ : ∃ k, xs.length = k := ⟨_, rfl⟩
                        obtain rfl : n1 = k + 1 := by rw [LN1.out, List.length_cons, hk]
                        have hy := HD.out.rz.xin y List.mem_cons_self
                        obtain ⟨y2, y3⟩ := hy
                        clear hk LN1
                        go_wp2_with fail
                        refine (rz_next_buf y HD.out.rz).mono ?_
                        rintro e v3 ⟨rfl, r, kp⟩
                        have HD := Lib.hid (HD.out.step r kp)
                        clear r kp z0 z1
                        obtain ⟨e0, e1, e2, e3, ef, eg⟩ := HD.out.mh.cells
                        obtain ⟨g, off, rfl, hg, hx, _⟩ := HD.out.mh.q1.at_ (by omega)
                        have x5 := hx 0 y rfl
                        rw [Nat.add_zero] at x5
                        have cl := HD.out.mh.q1.le
                        have cm := HD.out.mh.q1.max
                        unfold maxLen at cm
                        have sy : IntKind.i64.wrap (y + 1) = y + 1 := IntWalk.i64_in _ (by omega)
                        clear e0 e2 e3 eg hx
                        by_cases c11 : c1 = 1
                        · subst c11
                          obtain ⟨q, rfl⟩ := HD.out.mh.q1.tail1
                          have HN := Lib.hid (show Lh w (v3.setCell ⟨R, 1, none⟩ (.slice (some ⟨g, off, none⟩) 0 0)) s M a0 W C R Q L from ⟨_, _, _, _, _, _, _, _, _, _, _, _, (HD.out.write (HD.out.mh.tl q rfl)).done⟩)
                          clear q HD
                          go_wp2
                          go_roundw
                          case rel => exact ⟨i + 1, by omega, by omega, by go_num, HN⟩
                          case measure => simp [intOf]; omega
                        · have HN := Lib.hid (show Lh w (v3.setCell ⟨R, 1, none⟩ (.slice (some ⟨g, off + 1, none⟩) k (c1 - 1))) s M a0 W C R Q L from ⟨_, _, _, _, _, _, _, _, _, _, _, _, (HD.out.write (HD.out.mh.tl (HD.out.mh.q1.tail (by omega)) rfl)).done⟩)
                          clear HD
                          go_wp2
                          go_roundw
                          case rel => exact ⟨i + 1, by omega, by omega, by go_num, HN⟩
                          case measure => simp [intOf]; omega
                      | nil =>
                        obtain rfl : n1 = 0 := LN1.out
                        obtain ⟨k, hkl, hk, hf⟩ := first_true (ms := ms) (by have h := HLf.out; rw [List.length_nil] at h; omega)
                        have hp := HD.out.rz.part (n := (k : Int)) (by omega) (by omega)
                        have kL : k < L := by have := PL.out.1; omega
                        have HP := Lib.hid (pad_set (L := L) hkl false)
                        have HB := Lib.hid (show (pad L ms)[k]? = some true ∧ ∀ i : Nat, i < k → (pad L ms)[i]? = some false from ⟨pad_at hk, fun i hi => pad_at (hf i hi)⟩)
                        have HK := Lib.hid hk
                        have HF := Lib.hid hf
                        obtain ⟨P, hP⟩ : ∃ P, (k : Int) * C = P := ⟨_, rfl⟩
                        rw [hP] at hp
                        obtain ⟨P0, P1⟩ := hp
                        have s0 : IntKind.i64.wrap P = P := IntWalk.i64_in _ (by omega)
                        have s1 : IntKind.i64.wrap (a0 + P) = a0 + P := IntWalk.i64_in _ (by omega)
                        have s2 : IntKind.i64.wrap (a0 + P + C) = a0 + P + C := IntWalk.i64_in _ (by omega)
                        obtain ⟨E, hE⟩ : ∃ E, endI a0 W C k = E := ⟨_, rfl⟩
                        have EI := Lib.hid (show E = if a0 + P + C > a0 + W then a0 + W else a0 + P + C by rw [← hE]; unfold endI; rw [hP])
                        have HH := Lib.hid (And.intro hP hE)
                        clear hk hf hE
                        go_wp2_with fail
                        refine (rz_next_card k HD.out.rz HK.out HF.out).mono ?_
                        rw [HH.out.1, HH.out.2]
                        rintro e v3 ⟨rfl, r, kp⟩
                        have HD := Lib.hid (HD.out.step r kp)
                        clear r kp z0 z1
                        obtain ⟨e0, e1, e2, e3, ef, eg⟩ := HD.out.mh.cells
                        clear e0 e2 ef eg
                        go_wp2_with fail
                        go_loopw [28] (fun t wr => ∃ q : Nat, q ≤ k ∧ t = .int .i64 q ∧ v3 = wr) (fun t _ => k - (intOf t).toNat)
                        case atStart => exact ⟨0, Nat.zero_le _, rfl, rfl⟩
                        case round =>
                          obtain ⟨q, hq, rfl, rfl⟩ := hrel
                          by_cases qk : q < k
                          · have cm := HD.out.mh.b1.bools (HB.out.2 q qk)
                            go_wp2
                            go_roundw
                            case rel => exact ⟨q + 1, by omega, by go_num, by trivial⟩
                            case measure => simp [intOf]; omega
                          · obtain rfl : k = q := by omega
                            have cm := HD.out.mh.b1.bools HB.out.1
                            have cf := HD.out.mh.b1.frozen
                            have lt1 := HD.out.mh.b1.lt
                            have hw := HD.out.write ⟨(HD.out.mh.mk1 k false).1, (HD.out.mh.mk1 k false).2, fun _ e => .inl e⟩
                            rw [HP.out] at hw
                            have HN := Lib.hid (show Lh w (v3.setCell ⟨g1, k, none⟩ (.bool false)) s M a0 W C R Q L from ⟨_, _, _, _, _, _, _, _, _, _, _, _, hw.done⟩)
                            clear hw HD HP HB HK HF
                            by_cases ov : a0 + P + C > a0 + W
                            · obtain rfl : E = a0 + W := by rw [EI.out, if_pos ov]
                              go_wp2
                              go_roundw
                              case rel => exact ⟨i + 1, by omega, by omega, by go_num, HN⟩
                              case measure => simp [intOf]; omega
                            · obtain rfl : E = a0 + P + C := by rw [EI.out, if_neg ov]
                              go_wp2
                              go_roundw
                              case rel => exact ⟨i + 1, by omega, by omega, by go_num, HN⟩
                              case measure => simp [intOf]; omega
          · obtain rfl : i = 80 := by omega
            go_wp2_with fail
            refine (rAwake_walk _).mono ?_
            rintro e w5 ⟨rfl, b1⟩
            obtain ⟨xs, ms, ys, ns, A0, n0, c0, A1, n1, c1, g0, g1, hl⟩ := HL.out
            have BB := Lib.hid (below_trans hl.rz.bel b1)
            clear b1 hl HL
            go_wp2
            go_ret
            exact ⟨rfl, BB.out⟩
        · go_wp2_with fail
          refine (rAwake_walk _).mono ?_
          rintro e w5 ⟨rfl, b1⟩
          obtain ⟨xs, ms, ys, ns, A0, n0, c0, A1, n1, c1, g0, g1, hl⟩ := HL.out
          have BB := Lib.hid (below_trans hl.rz.bel b1)
          clear b1 hl HL
          go_wp2
          go_ret
          exact ⟨rfl, BB.out⟩
end Go.Proofs.Ytfjojpfknjdjiaa

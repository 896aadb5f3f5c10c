/- GraphOrder: nodes are told in the order in which they are met. -/
import Derived.Test.YtjjjeeffllelaaaGgQ
namespace Go.Proofs.Ytjjjeeffllelaaa
open Go.RowKit Go.Maps

theorem metsL_cut (L xs : List Int) (j : Nat) : metsL L xs = metsL (metsL L (xs.take j)) (xs.drop j) := by
  unfold metsL
  rw [← List.foldl_append, List.take_append_drop]

/-- How many were met, and that they stand at the front of what is told. -/
theorem ord_step {G : Gr} (ok : G.Ok) {L0 xs : List Int} (p : Pre (metsL L0 xs) G.live) {i m : Nat} {x : Int} (hx : xs[i]? = some x) (hm : m = (metsL L0 (xs.take i)).length) :
    (0 ≤ atL G.live x ∧ atL G.live x ≤ m ∧ m = (metsL L0 (xs.take (i + 1))).length) ∨ (atL G.live x = (m : Int) + 1 ∧ m + 1 = (metsL L0 (xs.take (i + 1))).length ∧ m + 1 ≤ G.live.length) := by
  have z0 : (0 : Int) ∉ G.live := fun e => by have := ok.live.in_ 0 e; omega
  have e := metsL_take (L := L0) hx
  have p1 : Pre (metL (metsL L0 (xs.take i)) x) G.live := by
    rw [← e]
    refine Pre.trans ?_ p
    rw [metsL_cut L0 xs (i + 1)]
    exact Pre.mets _ _
  rcases at_step z0 p1 with ⟨h1, h2, h3⟩ | ⟨h1, h2⟩
  · exact .inl ⟨h1, by omega, by rw [e, h3, hm]⟩
  · refine .inr ⟨by omega, by rw [e, h2, hm], ?_⟩
    obtain ⟨t, ht⟩ := p1
    have := congrArg List.length ht
    rw [List.length_append] at this
    omega

set_option maxHeartbeats 16000000 in
set_option maxRecDepth 100000 in
theorem graphOrder_walk (x : Int) (x0 : 0 ≤ x) (Aq : Option Addr) (n cp : Nat) (w : World) (rd : RdSt w Aq n) (_ : n ≤ cp) (_ : cp ≤ maxLen) : Calls Try.prog 5 #[.int .u8 x, .slice Aq n cp] w fun e w' => e = .returned (.bool true) ∧ Below w.heap.size w w' := by
  obtain ⟨H, hH⟩ : ∃ H : Nat, (H : Int) = x % 10 + 1 := ⟨(x % 10 + 1).toNat, by omega⟩
  have H1 : 1 ≤ H := by omega
  have H2 : H ≤ 10 := by omega
  have ek : x % 10 = (H : Int) - 1 := by omega
  have ek2 : Int.tmod x 10 = (H : Int) - 1 := by rw [Int.tmod_eq_emod_of_nonneg x0]; exact ek
  have HL : Hid ((Gr.new H 8).hs.length = H) := Lib.hid (by rw [Gr.new_hs, List.length_replicate]; unfold nhI; omega)
  have RD := Lib.hid rd
  clear hH x0 rd
  have HN := Lib.hid (gw_new (Z := noZ) (Below.refl w.heap.size w) (fun _ e => e.elim) H 8)
  unfold gP at *
  go_enter Try.func5, Try.ntmps5
  go_wp2_with fail
  refine HN.out.mono ?_
  rintro e w1 ⟨g, rfl, k1, _⟩
  have K1 := Lib.hid (And.intro k1 trivial)
  clear k1 HN ek ek2
  go_wp2_with fail
  go_loopw [6] (fun s wr => ∃ (i : Nat) (G : Gr), i ≤ n ∧ i ≤ 80 ∧ G.ns.length ≤ i ∧ Hid (G.hs.length = H) ∧ s = .int .i64 i ∧ Hid (Gw w wr noZ g G ∧ True)) (fun s _ => n - (intOf s).toNat)
  case atStart => exact ⟨0, _, Nat.zero_le _, Nat.zero_le _, Nat.le_refl _, HL, rfl, K1⟩
  case round =>
    clear K1 HL
    obtain ⟨i, G, hi, hi2, hm, hl, rfl, HK⟩ := hrel
    by_cases hlt : i < n ∧ i < 80
    · obtain ⟨h1, h2⟩ := hlt
      obtain ⟨ad, kk, a, p, q, v, rfl, ip, iq, hcell⟩ := RD.out i h1
      obtain ⟨c0, c1, c2, c3, c4⟩ := hcell _ HK.out.1.bel
      have h3 : (i : Int) < (n : Int) := by omega
      have h4 : (i : Int) < 80 := by omega
      have h5 : (0 : Int) ≤ (i : Int) := by omega
      have HD := Lib.hid (HK.out.1.doG kk a p q v iq.1 iq.2)
      have LN := Lib.hid (And.intro (Gr.nxt_ns G kk a p q v) ((Gr.nxt_hs G kk a p q v).trans hl.out))
      have EX := Lib.hid HK.out.2
      clear hcell HK hl
      go_wp2_with fail
      refine HD.out.mono ?_
      rintro e w2 ⟨rfl, k2, p2⟩
      have K2 : Hid (Gw w w2 noZ g (G.nxt kk a p q v) ∧ True) := Lib.hid ⟨k2, trivial⟩
      clear k2 p2 HD EX c0 c1 c2 c3 c4
      go_wp2
      go_roundw
      case rel => exact ⟨i + 1, _, by omega, by omega, by have := LN.out.1; omega, Lib.hid LN.out.2, by go_num, K2⟩
      case measure => simp [intOf]; omega
    · have hx : (¬ (i : Int) < (n : Int)) ∨ ((i : Int) < (n : Int) ∧ ¬ (i : Int) < 80) := by omega
      have h5 : (0 : Int) ≤ (i : Int) := by omega
      have OK : Hid (G.Ok ∧ G.live.length ≤ G.ns.length) := Lib.hid (by
        obtain ⟨S, r, _⟩ := HK.out.1
        exact ⟨r.ok, r.ok.live.few⟩)
      have TL := Lib.hid (HK.out.1.tell (by omega))
      have PM := Lib.hid (fun i hi => Gr.walk_metN (G := G) i hi OK.out.2)
      have ME := Lib.hid (Gr.metN_end OK.out.2)
      have lf := OK.out.2
      obtain ⟨LL, hLL⟩ : ∃ N, G.live.length = N := ⟨_, rfl⟩
      rw [hLL] at lf
      have HLL := Lib.hid hLL
      have lm : LL ≤ 80 := by omega
      clear HK hLL lf
      rcases hx with hx | ⟨hx, hx2⟩
      all_goals
        go_wp2_with fail
        refine TL.out.mono ?_
        rintro e w4 ⟨⟨Aa, ca, Ax, cx, rfl, b4, T4⟩, k4⟩
        rw [HLL.out, hl.out]
        have T := Lib.hid (And.intro k4.bel T4)
        clear k4 T4 b4 TL
        go_wp2_with fail
        go_loopw [9, 10] (fun s9 s10 wr => ∃ (j m : Nat), j ≤ H ∧ m ≤ LL ∧ s10 = .int .i64 j ∧ s9 = .int .i64 ((m : Int) + 1) ∧ Hid (m = (metsL [] (G.hs.take j)).length) ∧ w4 = wr) (fun _ s10 _ => H - (intOf s10).toNat)
        case atStart => exact ⟨0, 0, Nat.zero_le _, Nat.zero_le _, rfl, rfl, Lib.hid rfl, rfl⟩
        case round =>
          obtain ⟨j, m, hj, hmm, rfl, rfl, HM, rfl⟩ := hrel
          by_cases hlt : j < H
          · obtain ⟨y, hy⟩ : ∃ y, G.hs[j]? = some y := ⟨_, List.getElem?_eq_getElem (by rw [hl.out]; exact hlt)⟩
            have ST := ord_step OK.out.1 (L0 := []) (xs := G.hs) (PM.out 0 (Nat.zero_le _)).2 hy HM.out
            obtain ⟨gq, off, rfl, _, lq, cq⟩ := T.out.2.rd j (atL G.live y) (by unfold Gr.heldAt; rw [List.getElem?_map, hy]; rfl)
            generalize atL G.live y = z at *
            clear hy
            rcases ST with ⟨s1, s2, s3⟩ | ⟨s1, s3, s4⟩
            · have HM2 := Lib.hid s3
              have d1 : decide (z > (m : Int) + 1) = false := decide_eq_false (by omega)
              have d2 : decide ((m : Int) + 1 < z) = false := decide_eq_false (by omega)
              have d3 : decide (z < 0) = false := decide_eq_false (by omega)
              have d4 : (z == (m : Int) + 1) = false := by simp; omega
              clear s3 HM
              go_wp2_with fail
              go_roundw
              case rel => exact ⟨j + 1, m, by omega, hmm, by go_num, rfl, HM2, trivial⟩
              case measure => simp [intOf]; omega
            · have HM2 := Lib.hid s3
              rw [HLL.out] at s4
              have d1 : decide (z > (m : Int) + 1) = false := decide_eq_false (by omega)
              have d2 : decide ((m : Int) + 1 < z) = false := decide_eq_false (by omega)
              have d3 : decide (z < 0) = false := decide_eq_false (by omega)
              have d4 : (z == (m : Int) + 1) = true := by simp; omega
              clear s3 HM
              go_wp2_with fail
              go_roundw
              case rel => exact ⟨j + 1, m + 1, by omega, s4, by go_num, by go_num, HM2, trivial⟩
              case measure => simp [intOf]; omega
          · obtain rfl : j = H := by omega
            have HM0 := Lib.hid (show m = (G.metN 0).length from by rw [HM.out, List.take_of_length_le (by rw [hl.out]; exact Nat.le_refl _)]; rfl)
            clear HM
            go_wp2_with fail
            go_loopw [9, 11, 12] (fun s9 s11 _ wr => ∃ (i m : Nat), i ≤ LL ∧ m ≤ LL ∧ s11 = .int .i64 i ∧ s9 = .int .i64 ((m : Int) + 1) ∧ Hid (m = (G.metN i).length) ∧ w4 = wr) (fun _ s11 _ _ => LL - (intOf s11).toNat)
            case atStart => exact ⟨0, m, Nat.zero_le _, hmm, rfl, rfl, HM0, rfl⟩
            case round =>
              clear HM0 hmm
              obtain ⟨i, m, hi, hmm, rfl, rfl, HM, rfl⟩ := hrel
              by_cases hlt : i < LL
              · obtain ⟨y, hy⟩ : ∃ y, G.live[i]? = some y := ⟨_, List.getElem?_eq_getElem (by rw [HLL.out]; exact hlt)⟩
                have ey : G.live.getD i 0 = y := by rw [List.getD_eq_getElem?_getD, hy]; rfl
                have PR := Lib.hid (show Pre (metsL (G.metN i) (G.node y).1) G.live ∧ G.metN (i + 1) = metsL (G.metN i) (G.node y).1 from by
                  have h1 : G.metN (i + 1) = metsL (G.metN i) (G.node y).1 := by rw [← ey]; rfl
                  have h2 := (PM.out (i + 1) (by rw [HLL.out]; omega)).2
                  rw [h1] at h2
                  exact ⟨h2, h1⟩)
                obtain ⟨gq, off, A1, c1, A2, c2, rfl, _, lq, d0, _, r1, _, l1, _⟩ := T.out.2.nd i ((G.node y).1.map (atL G.live), (G.node y).2) (by unfold Gr.shown; rw [List.getElem?_map, hy]; rfl)
                dsimp only at d0 r1 l1
                rw [List.length_map] at d0 l1
                have R1 := Lib.hid r1
                obtain ⟨P, hP⟩ : ∃ P, (G.node y).1.length = P := ⟨_, rfl⟩
                rw [hP] at d0 l1
                have HP := Lib.hid hP
                have HM0 := Lib.hid (show m = (metsL (G.metN i) ((G.node y).1.take 0)).length from HM.out)
                clear hy ey r1 hP HM
                go_wp2_with fail
                go_loopw [9, 12] (fun s9 s12 wr => ∃ (k m : Nat), k ≤ P ∧ m ≤ LL ∧ s12 = .int .i64 k ∧ s9 = .int .i64 ((m : Int) + 1) ∧ Hid (m = (metsL (G.metN i) ((G.node y).1.take k)).length) ∧ w4 = wr) (fun _ s12 _ => P - (intOf s12).toNat)
                case atStart => exact ⟨0, m, Nat.zero_le _, hmm, rfl, rfl, HM0, rfl⟩
                case round =>
                  clear HM0 hmm
                  obtain ⟨k, m, hk, hmm, rfl, rfl, HM, rfl⟩ := hrel
                  by_cases hlt : k < P
                  · obtain ⟨u, hu⟩ : ∃ u, (G.node y).1[k]? = some u := ⟨_, List.getElem?_eq_getElem (by rw [HP.out]; exact hlt)⟩
                    have ST := ord_step OK.out.1 PR.out.1 hu HM.out
                    obtain ⟨g2, o2, rfl, _, l2, cq⟩ := R1.out k (atL G.live u) (by rw [List.getElem?_map, hu]; rfl)
                    generalize atL G.live u = z at *
                    clear hu
                    rcases ST with ⟨s1, s2, s3⟩ | ⟨s1, s3, s4⟩
                    · have HM2 := Lib.hid s3
                      have d1 : decide (z > (m : Int) + 1) = false := decide_eq_false (by omega)
                      have d2 : decide ((m : Int) + 1 < z) = false := decide_eq_false (by omega)
                      have d3 : decide (z < 0) = false := decide_eq_false (by omega)
                      have d4 : (z == (m : Int) + 1) = false := by simp; omega
                      clear s3 HM
                      go_wp2_with fail
                      go_roundw
                      case rel => exact ⟨k + 1, m, by omega, hmm, by go_num, rfl, HM2, trivial⟩
                      case measure => simp [intOf]; omega
                    · have HM2 := Lib.hid s3
                      rw [HLL.out] at s4
                      have d1 : decide (z > (m : Int) + 1) = false := decide_eq_false (by omega)
                      have d2 : decide ((m : Int) + 1 < z) = false := decide_eq_false (by omega)
                      have d3 : decide (z < 0) = false := decide_eq_false (by omega)
                      have d4 : (z == (m : Int) + 1) = true := by simp; omega
                      clear s3 HM
                      go_wp2_with fail
                      go_roundw
                      case rel => exact ⟨k + 1, m + 1, by omega, s4, by go_num, by go_num, HM2, trivial⟩
                      case measure => simp [intOf]; omega
                  · obtain rfl : k = P := by omega
                    have HM2 := Lib.hid (show m = (G.metN (i + 1)).length from by rw [HM.out, List.take_of_length_le (by rw [HP.out]; exact Nat.le_refl _), PR.out.2])
                    clear HM
                    go_wp2_with fail
                    go_roundw
                    case rel => exact ⟨i + 1, m, by omega, hmm, by go_num, rfl, HM2, trivial⟩
                    case measure => simp [intOf]; omega
              · obtain rfl : i = LL := by omega
                have em : m = i := by rw [HM.out, ← HLL.out, ME.out]
                subst em
                clear HM
                go_wp2_with fail
                refine (awake18_walk _).mono ?_
                rintro e w5 ⟨rfl, b5⟩
                have B5 := Lib.hid (below_trans T.out.1 b5)
                clear b5
                go_wp2
                go_ret
                exact ⟨rfl, B5.out⟩
end Go.Proofs.Ytjjjeeffllelaaa

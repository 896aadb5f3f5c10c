/- GraphClear: what no handle comes to is not told. -/
import Derived.Test.YtjjjeeffllelaaaGgQ
namespace Go.Proofs.Ytjjjeeffllelaaa
open Go.RowKit Go.Maps

set_option maxHeartbeats 16000000 in
set_option maxRecDepth 100000 in
theorem graphClear_walk (x : Int) (x0 : 0 ≤ x) (Aq : Option Addr) (n cp : Nat) (w : World) (rd : RdSt w Aq n) (_ : n ≤ cp) (_ : cp ≤ maxLen) : Calls Try.prog 4 #[.int .u8 x, .slice Aq n cp] w fun e w' => e = .returned (.bool true) ∧ Below w.heap.size w w' := by
  obtain ⟨H, hH⟩ : ∃ H : Nat, (H : Int) = x % 10 + 1 := ⟨(x % 10 + 1).toNat, by omega⟩
  have H1 : 1 ≤ H := by omega
  have H2 : H ≤ 10 := by omega
  have ek : x % 10 = (H : Int) - 1 := by omega
  have ek2 : Int.tmod x 10 = (H : Int) - 1 := by rw [Int.tmod_eq_emod_of_nonneg x0]; exact ek
  have HL : Hid ((Gr.new H 8).hs.length = H) := Lib.hid (by rw [Gr.new_hs, List.length_replicate]; unfold nhI; omega)
  have RD := Lib.hid rd
  clear hH x0 rd
  have HN := Lib.hid (gw_new (Z := noZ) (Below.refl w.heap.size w) (fun _ e => e.elim) H 8)
  unfold gP at *
  go_enter Try.func4, Try.ntmps4
  go_wp2_with fail
  refine HN.out.mono ?_
  rintro e w1 ⟨g, rfl, k1, _⟩
  have K1 := Lib.hid (And.intro k1 trivial)
  clear k1 HN ek ek2
  go_wp2_with fail
  go_loopw [7] (fun s wr => ∃ (i : Nat) (G : Gr), i ≤ n ∧ i ≤ 80 ∧ G.ns.length ≤ i ∧ Hid (G.hs.length = H) ∧ s = .int .i64 i ∧ Hid (Gw w wr noZ g G ∧ True)) (fun s _ => n - (intOf s).toNat)
  case atStart => exact ⟨0, _, Nat.zero_le _, Nat.zero_le _, Nat.le_refl _, HL, rfl, K1⟩
  case round =>
    clear K1 HL
    obtain ⟨i, G, hi, hi2, hm, hl, rfl, HK⟩ := hrel
    by_cases hlt : i < n ∧ i < 80
    · obtain ⟨h1, h2⟩ := hlt
      obtain ⟨ad, kk, ka, kp, kq, kv, rfl, ip, iq, hcell⟩ := RD.out i h1
      obtain ⟨c0, c1, c2, c3, c4⟩ := hcell _ HK.out.1.bel
      have h3 : (i : Int) < (n : Int) := by omega
      have h4 : (i : Int) < 80 := by omega
      have h5 : (0 : Int) ≤ (i : Int) := by omega
      have HD := Lib.hid (HK.out.1.doG kk ka kp kq kv iq.1 iq.2)
      have LN := Lib.hid (And.intro (Gr.nxt_ns G kk ka kp kq kv) ((Gr.nxt_hs G kk ka kp kq kv).trans hl.out))
      have EX := Lib.hid HK.out.2
      clear hcell HK hl
      go_wp2_with fail
      refine HD.out.mono ?_
      rintro e w2 ⟨rfl, k2, p2⟩
      have K2 : Hid (Gw w w2 noZ g (G.nxt kk ka kp kq kv) ∧ True) := Lib.hid ⟨k2, trivial⟩
      clear k2 p2 HD EX c0 c1 c2 c3 c4
      go_wp2
      go_roundw
      case rel => exact ⟨i + 1, _, by omega, by omega, by have := LN.out.1; omega, Lib.hid LN.out.2, by go_num, K2⟩
      case measure => simp [intOf]; omega
    · have hx : (¬ (i : Int) < (n : Int)) ∨ ((i : Int) < (n : Int) ∧ ¬ (i : Int) < 80) := by omega
      have h5 : (0 : Int) ≤ (i : Int) := by omega
      have KC := Lib.hid (show Gw w wr noZ g G ∧ Cl G H 0 from ⟨HK.out.1, hl.out, fun j hj => absurd hj (Nat.not_lt_zero _)⟩)
      have hm8 : G.ns.length ≤ 80 := by omega
      clear HK hl
      rcases hx with hx | ⟨hx, hx2⟩
      all_goals
        go_wp2_with fail
        go_loopw [8] (fun s wr => ∃ (h : Nat) (G : Gr), h ≤ H ∧ G.ns.length ≤ 80 ∧ s = .int .i64 h ∧ Hid (Gw w wr noZ g G ∧ Cl G H h)) (fun s _ => H - (intOf s).toNat)
        case atStart => exact ⟨0, G, Nat.zero_le _, hm8, rfl, KC⟩
        case round =>
          clear KC hm8
          obtain ⟨h, G, hh, hm, rfl, HC⟩ := hrel
          by_cases hlt : h < H
          · have HD := Lib.hid (HC.out.1.doG 6 h 0 0 0 (by decide) (by decide))
            have CS := Lib.hid (HC.out.2.step hlt 0 0 0)
            clear HC
            go_wp2_with fail
            refine HD.out.mono ?_
            rintro e w2 ⟨rfl, k2, _⟩
            have K2 := Lib.hid (And.intro k2 CS.out.1)
            have EN := Lib.hid CS.out.2
            clear k2 HD CS
            go_wp2
            go_roundw
            case rel => exact ⟨h + 1, _, by omega, by rw [EN.out]; exact hm, by go_num, K2⟩
            case measure => simp [intOf]; omega
          · obtain rfl : h = H := by omega
            have ZA := HC.out.2.all
            have e1 : G.live.length = 0 := by rw [Gr.clear_live ZA]; rfl
            have e2 := HC.out.2.1
            have ZH := Lib.hid (fun i hi => Gr.clear_held (i := i) ZA hi)
            have ZW := Lib.hid (Gr.clear_words ZA)
            have TL := Lib.hid (HC.out.1.tell (by omega))
            rw [e2] at ZH
            clear HC ZA
            go_wp2_with fail
            refine TL.out.mono ?_
            rintro e w4 ⟨⟨Aa, ca, Ax, cx, rfl, b4, T4⟩, k4⟩
            rw [e1, e2]
            have K4 := Lib.hid (And.intro k4 T4.rd)
            clear k4 T4 b4 TL e1 e2
            go_wp2_with fail
            go_loopw [11] (fun s wr => ∃ (j : Nat), j ≤ h ∧ s = .int .i64 j ∧ wr = w4) (fun s _ => h - (intOf s).toNat)
            case atStart => exact ⟨0, Nat.zero_le _, rfl, rfl⟩
            case round =>
              obtain ⟨j, hj, rfl, rfl⟩ := hrel
              by_cases hlt : j < h
              · obtain ⟨gq, off, rfl, _, lq, cq⟩ := K4.out.2 j 0 (ZH.out j hlt)
                go_wp2_with fail
                go_roundw
                case rel => exact ⟨j + 1, by omega, by go_num, trivial⟩
                case measure => simp [intOf]; omega
              · obtain rfl : j = h := by omega
                go_wp2_with fail
                refine (awake18_walk _).mono ?_
                rintro e w5 ⟨rfl, b5⟩
                have WD := Lib.hid ((K4.out.1.keep b5).words (by omega))
                rw [ZW.out] at WD
                have B5 := Lib.hid (K4.out.1.keep b5).bel
                clear b5
                go_wp2_with fail
                refine WD.out.mono ?_
                rintro e w6 ⟨rfl, b6⟩
                have B6 := Lib.hid (below_trans B5.out b6)
                clear b6 WD
                go_wp2
                go_ret
                exact ⟨rfl, B6.out⟩
end Go.Proofs.Ytjjjeeffllelaaa

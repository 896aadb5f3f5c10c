/- GraphErrors: what has an error changes nothing; what only asks does not, either. -/
import Derived.Test.YtjjjeeffllelaaaGgQ
namespace Go.Proofs.Ytjjjeeffllelaaa
open Go.RowKit Go.Maps

def asksK (k : Int) : Prop := k = 4 ∨ k = 8 ∨ k = 9 ∨ k = 10 ∨ k = 11 ∨ k = 12

set_option maxHeartbeats 16000000 in
set_option maxRecDepth 100000 in
theorem graphErrors_walk (x : Int) (x0 : 0 ≤ x) (Aq : Option Addr) (n cp : Nat) (k a b c v : Int) (ic : InI c) (w : World) (rd : RdSt w Aq n) (_ : n ≤ cp) (_ : cp ≤ maxLen) : Calls Try.prog 8 #[.int .u8 x, .slice Aq n cp, sgV k a b c v] w fun e w' => e = .returned (.bool true) ∧ Below w.heap.size w w' := by
  obtain ⟨H, hH⟩ : ∃ H : Nat, (H : Int) = x % 8 + 1 := ⟨(x % 8 + 1).toNat, by omega⟩
  have H1 : 1 ≤ H := by omega
  have H2 : H ≤ 8 := by omega
  have ek : x % 8 = (H : Int) - 1 := by omega
  have ek2 : Int.tmod x 8 = (H : Int) - 1 := by rw [Int.tmod_eq_emod_of_nonneg x0]; exact ek
  have HL : Hid ((Gr.new H 6).hs.length = H) := Lib.hid (by rw [Gr.new_hs, List.length_replicate]; unfold nhI; omega)
  have RD := Lib.hid rd
  clear hH x0 rd
  have al : Below w.heap.size w (w.alloc (stB k a b c v)) := (Below.refl _ _).alloc (Nat.le_refl _) _
  have HN := Lib.hid (gw_new (w0 := w) (Z := fun j => j = w.heap.size) al (fun j e => ⟨by omega, by subst e; simp⟩) H 6)
  have X0 := Lib.hid (Blk.new w #[.int .i64 k, .int .i64 a, .int .i64 b, .int .i64 c, .int .u64 v] 33)
  clear al
  unfold gP at *
  go_enter Try.func8, Try.ntmps8
  go_wp2_with fail
  refine HN.out.mono ?_
  rintro e w1 ⟨g, rfl, k1, b1⟩
  have K1 := Lib.hid (And.intro k1 (X0.out.keep b1))
  clear k1 b1 HN ek ek2 X0
  generalize hxb : w.heap.size = xb at *
  go_wp2_with fail
  go_loopw [8] (fun s wr => ∃ (i : Nat) (G : Gr), i ≤ n ∧ i ≤ 60 ∧ G.ns.length ≤ i ∧ Hid (G.hs.length = H) ∧ s = .int .i64 i ∧ Hid (Gw w wr (fun j => j = xb) g G ∧ Blk wr xb #[.int .i64 k, .int .i64 a, .int .i64 b, .int .i64 c, .int .u64 v] 33)) (fun s _ => n - (intOf s).toNat)
  case atStart => exact ⟨0, _, Nat.zero_le _, Nat.zero_le _, Nat.le_refl _, HL, rfl, K1⟩
  case round =>
    clear K1 HL
    obtain ⟨i, G, hi, hi2, hm, hl, rfl, HK⟩ := hrel
    by_cases hlt : i < n ∧ i < 60
    · obtain ⟨h1, h2⟩ := hlt
      obtain ⟨ad, kk, ka, kp, kq, kv, rfl, ip, iq, hcell⟩ := RD.out i h1
      obtain ⟨c0, c1, c2, c3, c4⟩ := hcell _ HK.out.1.bel
      have h3 : (i : Int) < (n : Int) := by omega
      have h4 : (i : Int) < 60 := by omega
      have h5 : (0 : Int) ≤ (i : Int) := by omega
      have HD := Lib.hid (HK.out.1.doG kk ka kp kq kv iq.1 iq.2)
      have LN := Lib.hid (And.intro (Gr.nxt_ns G kk ka kp kq kv) ((Gr.nxt_hs G kk ka kp kq kv).trans hl.out))
      have EX := Lib.hid HK.out.2
      clear hcell HK hl
      go_wp2_with fail
      refine HD.out.mono ?_
      rintro e w2 ⟨rfl, k2, p2⟩
      have K2 : Hid (Gw w w2 (fun j => j = xb) g (G.nxt kk ka kp kq kv) ∧ Blk w2 xb #[.int .i64 k, .int .i64 a, .int .i64 b, .int .i64 c, .int .u64 v] 33) := Lib.hid ⟨k2, EX.out.kp p2 rfl⟩
      clear k2 p2 HD EX c0 c1 c2 c3 c4
      go_wp2
      go_roundw
      case rel => exact ⟨i + 1, _, by omega, by omega, by have := LN.out.1; omega, Lib.hid LN.out.2, by go_num, K2⟩
      case measure => simp [intOf]; omega
    · have hx : (¬ (i : Int) < (n : Int)) ∨ ((i : Int) < (n : Int) ∧ ¬ (i : Int) < 60) := by omega
      have h5 : (0 : Int) ≤ (i : Int) := by omega
      have TL := Lib.hid (HK.out.1.tell (by omega))
      have ns1 := Gr.nxt_ns G k a b c v
      have HS : Hid (((G.ans k a b c v).1 ≠ 0 ∨ asksK k → G.nxt k a b c v = G) ∧ ((G.ans k a b c v).1 ≠ 0 → G.ans k a b c v = ((G.ans k a b c v).1, false, 0, 0))) := Lib.hid ⟨fun h => G.nxt_same k a b c v h, fun h => G.ans_err k a b c v h⟩
      have few : G.live.length ≤ 60 := by
        obtain ⟨S, r, _⟩ := HK.out.1
        have := r.ok.live.few
        omega
      rcases hx with hx | ⟨hx, hx2⟩
      all_goals
        go_wp2_with fail
        refine TL.out.mono ?_
        rintro e w4 ⟨⟨Aa, ca, Ax, cx, rfl, b4, T4⟩, k4⟩
        have X4 := HK.out.2.keep b4
        have c0 := X4.cell 0
        have c1 := X4.cell 1
        have c2 := X4.cell 2
        have c3 := X4.cell 3
        have c4 := X4.cell 4
        have HD := Lib.hid (HK.out.1.doT T4 b4 k a b c v ic.1 ic.2)
        have HX := Lib.hid X4
        clear X4 T4 k4 b4 TL
        generalize hA : G.ans k a b c v = an at *
        obtain ⟨E, Y, N, V⟩ := an
        dsimp only at HD HS
        clear hA
        go_wp2_with fail
        refine HD.out.mono ?_
        rintro e w5 ⟨rfl, k5, p5, T5⟩
        have al : Below w5.heap.size w5 (w5.alloc (.cells #[.int .i64 E, .bool Y, .int .i64 N, .int .u64 V] 30)) := (Below.refl _ _).alloc (Nat.le_refl _) _
        have K6 := Lib.hid (k5.keep al)
        have T6 := Lib.hid (T5.keep al)
        have X6 := Lib.hid (And.intro ((HX.out.kp p5 rfl).keep al) (Blk.new w5 #[.int .i64 E, .bool Y, .int .i64 N, .int .u64 V] 30))
        clear k5 p5 T5 al HD HX c0 c1 c2 c3 c4
        go_wp2_with fail
        generalize w5.alloc (.cells #[.int .i64 E, .bool Y, .int .i64 N, .int .u64 V] 30) = w6 at *
        generalize w5.heap.size = ab at *
        refine (K6.out.tell (by omega)).mono ?_
        rintro e w7 ⟨⟨Ab, cb, Ay, cy, rfl, b7, T7⟩, k7⟩
        have c0 := (X6.out.1.keep b7).cell 0
        have d0 := (X6.out.2.keep b7).cell 0
        have d1 := (X6.out.2.keep b7).cell 1
        have d2 := (X6.out.2.keep b7).cell 2
        have d3 := (X6.out.2.keep b7).cell 3
        have T57 := Lib.hid (And.intro (T6.out.keep b7) T7)
        have K7 := Lib.hid k7.bel
        clear b7 T7 k7 T6 X6 K6
        have hE : (E = 0 ∧ ¬ asksK k) ∨ (E = 0 ∧ asksK k) ∨ (E ≠ 0 ∧ asksK k) ∨ (E ≠ 0 ∧ ¬ asksK k) := by
          by_cases h1 : E = 0 <;> by_cases h2 : asksK k
          · exact .inr (.inl ⟨h1, h2⟩)
          · exact .inl ⟨h1, h2⟩
          · exact .inr (.inr (.inl ⟨h1, h2⟩))
          · exact .inr (.inr (.inr ⟨h1, h2⟩))
        rcases hE with ⟨hE, hk⟩ | ⟨hE, hk⟩ | ⟨hE, hk⟩ | ⟨hE, hk⟩
        · subst hE
          unfold asksK at hk
          simp only [not_or] at hk
          obtain ⟨n4, n8, n9, n10, n11, n12⟩ := hk
          have q4 : (k == 4) = false := by simpa using n4
          have q8 : (k == 8) = false := by simpa using n8
          have q9 : (k == 9) = false := by simpa using n9
          have q10 : (k == 10) = false := by simpa using n10
          have q11 : (k == 11) = false := by simpa using n11
          have q12 : (k == 12) = false := by simpa using n12
          go_wp2_with fail
          refine (awake18_walk _).mono ?_
          rintro e w8 ⟨rfl, b8⟩
          have e0 := (b8.cell (p := ⟨ab, 0, none⟩) (cell_lt d0)).trans d0
          have B8 := Lib.hid (below_trans K7.out b8)
          clear b8
          go_wp2
          go_ret
          exact ⟨rfl, B8.out⟩
        · have eG := HS.out.1 (.inr hk)
          rw [eG] at T57 ⊢
          clear HS eG
          subst hE
          unfold asksK at hk
          rcases hk with rfl | rfl | rfl | rfl | rfl | rfl
          all_goals
            go_wp2_with fail
            refine (awake18_walk _).mono ?_
            rintro e w8 ⟨rfl, b8⟩
            have e0 := (b8.cell (p := ⟨ab, 0, none⟩) (cell_lt d0)).trans d0
            have SM := Lib.hid (same_tell (ca := ca) (cx := cx) (cb := cb) (cy := cy) (T57.out.1.keep b8) (T57.out.2.keep b8) (by omega) (by rw [hl.out]; omega))
            have B8 := Lib.hid (below_trans K7.out b8)
            clear b8 d0 d1 d2 d3 c0
            go_wp2_with fail
            refine SM.out.mono ?_
            rintro e w9 ⟨rfl, b9⟩
            have B9 := Lib.hid (below_trans B8.out b9)
            clear b9 SM
            go_wp2
            go_ret
            exact ⟨rfl, B9.out⟩
        · have hv := HS.out.2 hE
          have eG := HS.out.1 (.inl hE)
          rw [eG] at T57 ⊢
          clear HS eG
          cases hv
          have qE : (E != 0) = true := by simpa using hE
          have qE2 : (E == 0) = false := by simpa using hE
          unfold asksK at hk
          rcases hk with rfl | rfl | rfl | rfl | rfl | rfl
          all_goals
            go_wp2_with fail
            refine (awake18_walk _).mono ?_
            rintro e w8 ⟨rfl, b8⟩
            have e0 := (b8.cell (p := ⟨ab, 0, none⟩) (cell_lt d0)).trans d0
            have SM := Lib.hid (same_tell (ca := ca) (cx := cx) (cb := cb) (cy := cy) (T57.out.1.keep b8) (T57.out.2.keep b8) (by omega) (by rw [hl.out]; omega))
            have B8 := Lib.hid (below_trans K7.out b8)
            clear b8 d0 d1 d2 d3 c0
            go_wp2_with fail
            refine SM.out.mono ?_
            rintro e w9 ⟨rfl, b9⟩
            have B9 := Lib.hid (below_trans B8.out b9)
            clear b9 SM
            go_wp2
            go_ret
            exact ⟨rfl, B9.out⟩
        · have hv := HS.out.2 hE
          have eG := HS.out.1 (.inl hE)
          rw [eG] at T57 ⊢
          clear HS eG
          cases hv
          have qE : (E != 0) = true := by simpa using hE
          have qE2 : (E == 0) = false := by simpa using hE
          unfold asksK at hk
          simp only [not_or] at hk
          obtain ⟨n4, n8, n9, n10, n11, n12⟩ := hk
          have q4 : (k == 4) = false := by simpa using n4
          have q8 : (k == 8) = false := by simpa using n8
          have q9 : (k == 9) = false := by simpa using n9
          have q10 : (k == 10) = false := by simpa using n10
          have q11 : (k == 11) = false := by simpa using n11
          have q12 : (k == 12) = false := by simpa using n12
          go_wp2_with fail
          refine (awake18_walk _).mono ?_
          rintro e w8 ⟨rfl, b8⟩
          have e0 := (b8.cell (p := ⟨ab, 0, none⟩) (cell_lt d0)).trans d0
          have SM := Lib.hid (same_tell (ca := ca) (cx := cx) (cb := cb) (cy := cy) (T57.out.1.keep b8) (T57.out.2.keep b8) (by omega) (by rw [hl.out]; omega))
          have B8 := Lib.hid (below_trans K7.out b8)
          clear b8 d0 d1 d2 d3 c0
          go_wp2_with fail
          refine SM.out.mono ?_
          rintro e w9 ⟨rfl, b9⟩
          have B9 := Lib.hid (below_trans B8.out b9)
          clear b9 SM
          go_wp2
          go_ret
          exact ⟨rfl, B9.out⟩
end Go.Proofs.Ytjjjeeffllelaaa

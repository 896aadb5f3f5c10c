/- The Go function tilthlaw13.CorePlays returns true for every input, and its arguments read afterwards as they read before: the given statement CorePlaysSaid, without further conditions. -/
import Derived.Test.YthmhehehomieiaaGreatJoinD

/- The walk of CorePlays. -/
namespace Go.Proofs.YthmhehehomieiaaGreat
open Go.RowKit

/-- What the loop keeps: the core and the graph hold the same, and the configuration's box. -/
def PlI (w0 w : World) (x b : Nat) (cf : Cfg) (g : Nat) (G : Gr) : Prop :=
  Kr w0 w (fun k => k = x) b cf g G G ∧ Blk w x #[.int .i64 cf.ha, .int .i64 cf.nu, .int .i64 cf.ps, .int .i64 cf.pz, .int .i64 cf.cd, .int .i64 cf.bf, .int .i64 cf.st, .int .i64 cf.tn, .int .i64 cf.lg, .int .i64 cf.mi, .int .i64 cf.ma, .int .i64 cf.na, .int .i64 cf.ja] 23
theorem PlI.keep {w0 w w' : World} {x b g : Nat} {cf : Cfg} {G : Gr} (h : PlI w0 w x b cf g G) (f : Below w.heap.size w w') : PlI w0 w' x b cf g G := ⟨h.1.keep f, h.2.keep f⟩

set_option maxHeartbeats 8000000 in
set_option maxRecDepth 100000 in
theorem corePlays_walk (a b c d : Int) (ha : By a) (hb : By b) (hc : By c) (hd : By d) (A : Option Addr) (n cp : Nat) (w : World) (rd : RdSt w A n) (_ : n ≤ cp) (_ : cp ≤ maxLen) :
    Calls Tryz.prog 4 #[.int .u8 a, .int .u8 b, .int .u8 c, .int .u8 d, .slice A n cp] w fun e w' => e = .returned (.bool true) ∧ Below w.heap.size w w' := by
  have HC := Lib.hid (config_any a b c d ha hb hc hd)
  have HM := Lib.hid (cfgOf_may a b c d ha hb hc hd)
  have HH := Lib.hid (show (Gr.none_ (cfgOf a b c d)).hs.length = (cfgOf a b c d).ha.toNat from zeros_length _)
  have H2 := Lib.hid (show 2 ≤ (cfgOf a b c d).ha.toNat from by show 2 ≤ (a % 5 + 2).toNat; have := ha.1; omega)
  have RD := Lib.hid rd
  clear ha hb hc hd rd
  generalize cfgOf a b c d = cf at *
  go_enter Tryz.func4, Tryz.ntmps4
  go_wp2_with fail
  refine (HC.out _).mono ?_
  rintro e w1 ⟨rfl, b1⟩
  have X1 := Lib.hid (Blk.new w1 #[.int .i64 cf.ha, .int .i64 cf.nu, .int .i64 cf.ps, .int .i64 cf.pz, .int .i64 cf.cd, .int .i64 cf.bf, .int .i64 cf.st, .int .i64 cf.tn, .int .i64 cf.lg, .int .i64 cf.mi, .int .i64 cf.ma, .int .i64 cf.na, .int .i64 cf.ja] 23)
  have B1 := Lib.hid (b1.alloc b1.size (.cells #[.int .i64 cf.ha, .int .i64 cf.nu, .int .i64 cf.ps, .int .i64 cf.pz, .int .i64 cf.cd, .int .i64 cf.bf, .int .i64 cf.st, .int .i64 cf.tn, .int .i64 cf.lg, .int .i64 cf.mi, .int .i64 cf.ma, .int .i64 cf.na, .int .i64 cf.ja] 23))
  have Z1 := Lib.hid b1.size
  clear b1 HC
  go_wp2_with fail
  refine (kg_new (w0 := w) (Z := fun k => k = w1.heap.size) HM.out B1.out (fun k e => ⟨by subst e; exact Z1.out, by subst e; simp⟩)).mono ?_
  rintro e w2 ⟨b, rfl, k2, p2⟩
  have K2 := Lib.hid k2
  have X2 := Lib.hid (X1.out.kp p2 rfl)
  clear k2 p2 X1 B1 Z1
  go_wp2_with fail
  refine (awake13_walk _).mono ?_
  rintro e w3 ⟨rfl, b3⟩
  have K3 := Lib.hid (K2.out.keep b3)
  have X3 := Lib.hid (X2.out.keep b3)
  clear b3 K2 X2
  obtain ⟨q0, q1, q2, q3, q4, q5, q6, q7, q8, q9, q10, q11, q12⟩ := X3.out.thirteen
  clear q1 q2 q3 q4 q5 q6 q7 q9 q10 q11 q12
  go_wp2_with fail
  refine (rgNew_any cf.ha cf.lg _).mono ?_
  rintro e w4 ⟨g, rfl, S, r4, b4, n4⟩
  rw [new_none HM.out] at r4
  have KL : Hid (PlI w w4 w1.heap.size b cf g (Gr.none_ cf)) := Lib.hid ⟨Kr.of_new K3.out b4 r4 n4, X3.out.keep b4⟩
  clear q0 q8 r4 b4 n4 K3 X3
  generalize w1.heap.size = xb at *
  go_wp2_with fail
  go_loopw [15, 16, 17] (fun s5 s6 s7 wr => ∃ (i : Nat) (G : Gr), i ≤ n ∧ i ≤ 100 ∧ G.ns.length ≤ i ∧ (tot G.ns : Int) ≤ 4096 ∧ Hid (G.hs.length = cf.ha.toNat ∧ G.lg = cf.lg) ∧ s5 = .int .i64 (tot G.ns) ∧ s6 = .int .i64 G.ns.length ∧ s7 = .int .i64 i ∧ Hid (PlI w wr xb b cf g G)) (fun _ _ s7 _ => n - (intOf s7).toNat)
  case atStart => exact ⟨0, Gr.none_ cf, Nat.zero_le _, Nat.zero_le _, Nat.zero_le _, (by show ((tot [] : Nat) : Int) ≤ 4096; rw [tot_nil]; decide), Lib.hid ⟨HH.out, rfl⟩, rfl, rfl, rfl, KL⟩
  case round =>
    clear KL HH
    obtain ⟨i, G, hi, hi2, hm, ht, hl, rfl, rfl, rfl, KL⟩ := hrel
    have M0 := HM.out.nu1
    by_cases hlt : i < n ∧ i < 100
    · obtain ⟨h1, h2⟩ := hlt
      obtain ⟨ad, k, x, p, q, v, rfl, ip, iq, hcell⟩ := RD.out i h1
      obtain ⟨c0, c1, c2, c3, c4⟩ := hcell _ KL.out.1.bel
      have h3 : (i : Int) < (n : Int) := by omega
      have h4 : (i : Int) < 100 := by omega
      have h5 : (0 : Int) ≤ (i : Int) := by omega
      clear hcell
      have hk : (k < 1) ∨ (¬ k < 1 ∧ 10 < k) ∨ (¬ k < 1 ∧ ¬ 10 < k) := by omega
      rcases hk with k1 | ⟨k1, k2⟩ | ⟨k1, k2⟩
      · have KN := Lib.hid (KL.out.keep ((Below.refl _ wr).alloc (Nat.le_refl _) (stB k x p q v)))
        go_wp2
        go_roundw
        case rel => exact ⟨i + 1, G, by omega, by omega, by omega, ht, hl, rfl, rfl, by go_num, KN⟩
        case measure => simp [intOf]; omega
      · have KN := Lib.hid (KL.out.keep ((Below.refl _ wr).alloc (Nat.le_refl _) (stB k x p q v)))
        go_wp2
        go_roundw
        case rel => exact ⟨i + 1, G, by omega, by omega, by omega, ht, hl, rfl, rfl, by go_num, KN⟩
        case measure => simp [intOf]; omega
      · have al : Below wr.heap.size wr (wr.alloc (stB k x p q v)) := (Below.refl _ wr).alloc (Nat.le_refl _) (stB k x p q v)
        have KS := Lib.hid (And.intro (KL.out.1.grow (Z' := fun j => j = xb ∨ j = wr.heap.size) al (fun j e => e.imp id fun e => ⟨by omega, by subst e; simp⟩)) (And.intro (KL.out.2.keep al) (Blk.new wr #[.int .i64 k, .int .i64 x, .int .i64 p, .int .i64 q, .int .u64 v] 53)))
        clear KL al
        go_wp2_with fail
        refine (kr_do KS.out.1 k x p q v iq.2).mono ?_
        rintro e w2 ⟨rfl, k2, p2⟩
        have K2 := Lib.hid (And.intro k2 (And.intro (KS.out.2.1.kp p2 (.inl rfl)) (KS.out.2.2.kp p2 (.inr rfl))))
        clear k2 p2 KS c0 c1 c2 c3 c4
        generalize wr.heap.size = sb at *
        generalize hA : doA cf.nu G k x p q v = an at *
        obtain ⟨E, y, nn, vv⟩ := an
        have al2 := (Below.refl _ w2).alloc (Nat.le_refl _) (.cells #[.int .i64 E, .bool y, .int .i64 nn, .int .u64 vv] 55)
        have K3 := Lib.hid (And.intro (K2.out.1.grow (Z' := fun j => (j = xb ∨ j = sb) ∨ j = w2.heap.size) al2 (fun j e => e.imp id fun e => ⟨by omega, by subst e; simp⟩)) (And.intro (K2.out.2.1.keep al2) (And.intro (K2.out.2.2.keep al2) (Blk.new w2 #[.int .i64 E, .bool y, .int .i64 nn, .int .u64 vv] 55))))
        have HA := Lib.hid hA
        have HI := Lib.hid (And.intro hm ht)
        clear hA hm ht K2 al2
        go_upto_region 13 with (fail)
        generalize w2.alloc (.cells #[.int .i64 E, .bool y, .int .i64 nn, .int .u64 vv] 55) = w3 at *
        generalize w2.heap.size = yb at *
        have s0 := K3.out.2.2.1.cell 0
        have s1 := K3.out.2.2.1.cell 1
        have s2 := K3.out.2.2.1.cell 2
        have s3 := K3.out.2.2.1.cell 3
        have s4 := K3.out.2.2.1.cell 4
        simp only [List.getElem?_toArray, List.getElem?_cons_succ, List.getElem?_cons_zero] at s0 s1 s2 s3 s4
        obtain ⟨q0, q1, q2, q3, q4, q5, q6, q7, q8, q9, q10, q11, q12⟩ := K3.out.2.1.thirteen
        clear q2 q3 q4 q5 q6 q7 q9 q10 q11 q12
        have L1 := HM.out.lg1
        have L0 := HM.out.lg0
        go_cut [20] (fun s wc => ∃ B : Bool, s = .bool B ∧ B = decide ((0 ≤ x ∧ x < cf.ha) ∧ 0 ≤ p ∧ 0 ≤ q ∧ p ≤ cf.lg ∧ q ≤ cf.lg - p) ∧ w3 = wc)
        case first =>
          as_aux_lemma =>
          by_cases g1 : 0 ≤ x
          · by_cases g2 : x < cf.ha
            · by_cases g3 : 0 ≤ p
              · by_cases g4 : 0 ≤ q
                · by_cases g5 : p ≤ cf.lg
                  · go_wp2
                    go_meet
                    case rel => exact ⟨_, rfl, by simp [g1, g2, g3, g4, g5], rfl⟩
                  · go_wp2
                    go_meet
                    case rel => exact ⟨_, rfl, (decide_eq_false (by omega)).symm, rfl⟩
                · go_wp2
                  go_meet
                  case rel => exact ⟨_, rfl, (decide_eq_false (by omega)).symm, rfl⟩
              · go_wp2
                go_meet
                case rel => exact ⟨_, rfl, (decide_eq_false (by omega)).symm, rfl⟩
            · go_wp2
              go_meet
              case rel => exact ⟨_, rfl, (decide_eq_false (by omega)).symm, rfl⟩
          · go_wp2
            go_meet
            case rel => exact ⟨_, rfl, (decide_eq_false (by omega)).symm, rfl⟩
        case rest =>
          obtain ⟨B, rfl, hB, rfl⟩ := hcut
          have hmi : mayI G x p q ↔ ((0 ≤ x ∧ x < cf.ha) ∧ 0 ≤ p ∧ 0 ≤ q ∧ p ≤ cf.lg ∧ q ≤ cf.lg - p) := by
            have e1 := hl.out.1
            have e2 := hl.out.2
            have e3 := HM.out.ha0
            unfold mayI Gr.has
            simp only [decide_eq_true_eq, Bool.and_eq_true]
            constructor <;> (intro h; omega)
          have AG : Hid ((doG cf.nu G k x p q v).hs.length = cf.ha.toNat ∧ (doG cf.nu G k x p q v).lg = cf.lg) := Lib.hid ⟨(doG_hs cf.nu G k x p q v).trans hl.out.1, (doG_lg cf.nu G k x p q v).trans hl.out.2⟩
          by_cases gM : (0 ≤ x ∧ x < cf.ha) ∧ 0 ≤ p ∧ 0 ≤ q ∧ p ≤ cf.lg ∧ q ≤ cf.lg - p
          · obtain rfl : true = B := (hB.trans (decide_eq_true gM)).symm
            clear hB
            have hmay := hmi.2 gM
            by_cases gk : k = 1
            · subst gk
              by_cases gf : cf.nu < tot G.ns + p + q + 2
              · as_aux_lemma =>
                have e := HA.out
                rw [doG_full hmay gf] at e
                simp only [Prod.mk.injEq] at e
                obtain ⟨rfl, rfl, rfl, rfl⟩ := e
                have a0 := K3.out.2.2.2.cell 0
                simp only [List.getElem?_toArray, List.getElem?_cons_zero] at a0
                have t0 : (tot G.ns : Int) ≤ 4096 := HI.out.2
                clear hmay hmi
                go_wp2
                go_ret
                exact ⟨rfl, K3.out.1.bel⟩
              · as_aux_lemma =>
                have hnf := full_room (a := x) gf
                obtain ⟨e1, e2⟩ := doG_made (v := v) hmay gf
                have HE : Hid (((doG cf.nu G 1 x p q v).ns.length : Int) = G.ns.length + 1 ∧ (tot (doG cf.nu G 1 x p q v).ns : Int) = tot G.ns + p + q + 2) := Lib.hid ⟨by omega, e2⟩
                have t0 : (tot G.ns : Int) ≤ 4096 := HI.out.2
                have t1 : (G.ns.length : Int) ≤ 100 := by have := HI.out.1; omega
                clear hmay hmi e1 e2
                have KR := kr_ref K3.out.1 1 x p q v ⟨by omega, by omega⟩ hnf ip.1 ip.2 (by have := HI.out.1; omega)
                rw [HA.out] at KR
                have KR := Lib.hid KR
                clear hnf
                go_wp2_with fail
                refine KR.out.mono ?_
                rintro e w5 ⟨rfl, k5, p5⟩
                have K5 := Lib.hid (And.intro k5 (And.intro (K3.out.2.1.kp p5 (.inl (.inl rfl))) (K3.out.2.2.2.kp p5 (.inr rfl))))
                clear s0 s1 s2 s3 s4 q0 q1 q8 K3 k5 p5 KR
                have a0 := K5.out.2.2.cell 0
                have a1 := K5.out.2.2.cell 1
                have a2 := K5.out.2.2.cell 2
                have a3 := K5.out.2.2.cell 3
                have ly := K5.out.2.2.lt
                simp only [List.getElem?_toArray, List.getElem?_cons_succ, List.getElem?_cons_zero] at a0 a1 a2 a3
                generalize doG cf.nu G 1 x p q v = G2 at *
                go_wp2_with fail
                refine (kr_stats (K5.out.1.keep ((Below.refl _ w5).alloc (Nat.le_refl _) _))).mono ?_
                rintro e w6 ⟨rfl, b6⟩
                have K6 := Lib.hid (And.intro (K5.out.1.keep (below_trans ((Below.refl _ w5).alloc (Nat.le_refl _) _) b6)) (K5.out.2.1.keep (below_trans ((Below.refl _ w5).alloc (Nat.le_refl _) _) b6)))
                rw [HE.out.1, HE.out.2]
                clear K5 a0 a1 a2 a3 ly b6
                go_wp2_with fail
                have al6 := fun o => (Below.refl _ w6).alloc (Nat.le_refl _) o
                go_roundw
                case rel =>
                  refine ⟨i + 1, G2, by omega, by omega, by have := HI.out.1; have := HE.out.1; omega, by have := HI.out.2; have := HE.out.2; omega, AG, by rw [HE.out.2], by rw [HE.out.1], by go_num, Lib.hid ⟨K6.out.1.grow (al6 _) fun j e => .inl (.inl (.inl e)), K6.out.2.keep (al6 _)⟩⟩
                case measure => simp [intOf]; omega
            · as_aux_lemma =>
              have hno : k ≠ 1 ∨ ¬ mayI G x p q := .inl gk
              have hnf := full_no (nu := cf.nu) hno
              obtain ⟨e1, e2⟩ := doG_same cf.nu G k x p q v hno
              have HE : Hid (((doG cf.nu G k x p q v).ns.length : Int) = G.ns.length ∧ (tot (doG cf.nu G k x p q v).ns : Int) = tot G.ns) := Lib.hid ⟨by omega, by omega⟩
              clear e1 e2 hno hmi
              have KR := kr_ref K3.out.1 k x p q v ⟨by omega, by omega⟩ hnf ip.1 ip.2 (by have := HI.out.1; omega)
              rw [HA.out] at KR
              have KR := Lib.hid KR
              clear hnf
              go_wp2_with fail
              refine KR.out.mono ?_
              rintro e w5 ⟨rfl, k5, p5⟩
              have K5 := Lib.hid (And.intro k5 (And.intro (K3.out.2.1.kp p5 (.inl (.inl rfl))) (K3.out.2.2.2.kp p5 (.inr rfl))))
              clear s0 s1 s2 s3 s4 q0 q1 q8 K3 k5 p5 KR
              have a0 := K5.out.2.2.cell 0
              have a1 := K5.out.2.2.cell 1
              have a2 := K5.out.2.2.cell 2
              have a3 := K5.out.2.2.cell 3
              have ly := K5.out.2.2.lt
              simp only [List.getElem?_toArray, List.getElem?_cons_succ, List.getElem?_cons_zero] at a0 a1 a2 a3
              generalize doG cf.nu G k x p q v = G2 at *
              go_wp2_with fail
              refine (kr_stats (K5.out.1.keep ((Below.refl _ w5).alloc (Nat.le_refl _) _))).mono ?_
              rintro e w6 ⟨rfl, b6⟩
              have K6 := Lib.hid (And.intro (K5.out.1.keep (below_trans ((Below.refl _ w5).alloc (Nat.le_refl _) _) b6)) (K5.out.2.1.keep (below_trans ((Below.refl _ w5).alloc (Nat.le_refl _) _) b6)))
              rw [HE.out.1, HE.out.2]
              clear K5 a0 a1 a2 a3 ly b6
              go_wp2_with fail
              have al6 := fun o => (Below.refl _ w6).alloc (Nat.le_refl _) o
              go_roundw
              case rel =>
                refine ⟨i + 1, G2, by omega, by omega, by have := HI.out.1; have := HE.out.1; omega, by have := HI.out.2; have := HE.out.2; omega, AG, by rw [HE.out.2], by rw [HE.out.1], by go_num, Lib.hid ⟨K6.out.1.grow (al6 _) fun j e => .inl (.inl (.inl e)), K6.out.2.keep (al6 _)⟩⟩
              case measure => simp [intOf]; omega
          · obtain rfl : false = B := (hB.trans (decide_eq_false gM)).symm
            clear hB
            have hno : k ≠ 1 ∨ ¬ mayI G x p q := .inr fun e => gM (hmi.1 e)
            clear gM
            by_cases gk : k = 1
            · as_aux_lemma =>
              subst gk
              have hnf := full_no (nu := cf.nu) hno
              obtain ⟨e1, e2⟩ := doG_same cf.nu G 1 x p q v hno
              have HE : Hid (((doG cf.nu G 1 x p q v).ns.length : Int) = G.ns.length ∧ (tot (doG cf.nu G 1 x p q v).ns : Int) = tot G.ns) := Lib.hid ⟨by omega, by omega⟩
              clear e1 e2 hno hmi
              have KR := kr_ref K3.out.1 1 x p q v ⟨by omega, by omega⟩ hnf ip.1 ip.2 (by have := HI.out.1; omega)
              rw [HA.out] at KR
              have KR := Lib.hid KR
              clear hnf
              go_wp2_with fail
              refine KR.out.mono ?_
              rintro e w5 ⟨rfl, k5, p5⟩
              have K5 := Lib.hid (And.intro k5 (And.intro (K3.out.2.1.kp p5 (.inl (.inl rfl))) (K3.out.2.2.2.kp p5 (.inr rfl))))
              clear s0 s1 s2 s3 s4 q0 q1 q8 K3 k5 p5 KR
              have a0 := K5.out.2.2.cell 0
              have a1 := K5.out.2.2.cell 1
              have a2 := K5.out.2.2.cell 2
              have a3 := K5.out.2.2.cell 3
              have ly := K5.out.2.2.lt
              simp only [List.getElem?_toArray, List.getElem?_cons_succ, List.getElem?_cons_zero] at a0 a1 a2 a3
              generalize doG cf.nu G 1 x p q v = G2 at *
              go_wp2_with fail
              refine (kr_stats (K5.out.1.keep ((Below.refl _ w5).alloc (Nat.le_refl _) _))).mono ?_
              rintro e w6 ⟨rfl, b6⟩
              have K6 := Lib.hid (And.intro (K5.out.1.keep (below_trans ((Below.refl _ w5).alloc (Nat.le_refl _) _) b6)) (K5.out.2.1.keep (below_trans ((Below.refl _ w5).alloc (Nat.le_refl _) _) b6)))
              rw [HE.out.1, HE.out.2]
              clear K5 a0 a1 a2 a3 ly b6
              go_wp2_with fail
              have al6 := fun o => (Below.refl _ w6).alloc (Nat.le_refl _) o
              go_roundw
              case rel =>
                refine ⟨i + 1, G2, by omega, by omega, by have := HI.out.1; have := HE.out.1; omega, by have := HI.out.2; have := HE.out.2; omega, AG, by rw [HE.out.2], by rw [HE.out.1], by go_num, Lib.hid ⟨K6.out.1.grow (al6 _) fun j e => .inl (.inl (.inl e)), K6.out.2.keep (al6 _)⟩⟩
              case measure => simp [intOf]; omega
            · as_aux_lemma =>
              have hnf := full_no (nu := cf.nu) hno
              obtain ⟨e1, e2⟩ := doG_same cf.nu G k x p q v hno
              have HE : Hid (((doG cf.nu G k x p q v).ns.length : Int) = G.ns.length ∧ (tot (doG cf.nu G k x p q v).ns : Int) = tot G.ns) := Lib.hid ⟨by omega, by omega⟩
              clear e1 e2 hno hmi
              have KR := kr_ref K3.out.1 k x p q v ⟨by omega, by omega⟩ hnf ip.1 ip.2 (by have := HI.out.1; omega)
              rw [HA.out] at KR
              have KR := Lib.hid KR
              clear hnf
              go_wp2_with fail
              refine KR.out.mono ?_
              rintro e w5 ⟨rfl, k5, p5⟩
              have K5 := Lib.hid (And.intro k5 (And.intro (K3.out.2.1.kp p5 (.inl (.inl rfl))) (K3.out.2.2.2.kp p5 (.inr rfl))))
              clear s0 s1 s2 s3 s4 q0 q1 q8 K3 k5 p5 KR
              have a0 := K5.out.2.2.cell 0
              have a1 := K5.out.2.2.cell 1
              have a2 := K5.out.2.2.cell 2
              have a3 := K5.out.2.2.cell 3
              have ly := K5.out.2.2.lt
              simp only [List.getElem?_toArray, List.getElem?_cons_succ, List.getElem?_cons_zero] at a0 a1 a2 a3
              generalize doG cf.nu G k x p q v = G2 at *
              go_wp2_with fail
              refine (kr_stats (K5.out.1.keep ((Below.refl _ w5).alloc (Nat.le_refl _) _))).mono ?_
              rintro e w6 ⟨rfl, b6⟩
              have K6 := Lib.hid (And.intro (K5.out.1.keep (below_trans ((Below.refl _ w5).alloc (Nat.le_refl _) _) b6)) (K5.out.2.1.keep (below_trans ((Below.refl _ w5).alloc (Nat.le_refl _) _) b6)))
              rw [HE.out.1, HE.out.2]
              clear K5 a0 a1 a2 a3 ly b6
              go_wp2_with fail
              have al6 := fun o => (Below.refl _ w6).alloc (Nat.le_refl _) o
              go_roundw
              case rel =>
                refine ⟨i + 1, G2, by omega, by omega, by have := HI.out.1; have := HE.out.1; omega, by have := HI.out.2; have := HE.out.2; omega, AG, by rw [HE.out.2], by rw [HE.out.1], by go_num, Lib.hid ⟨K6.out.1.grow (al6 _) fun j e => .inl (.inl (.inl e)), K6.out.2.keep (al6 _)⟩⟩
              case measure => simp [intOf]; omega
    · have hlt : ((i : Int) < (n : Int) ∧ ¬ ((i : Int) < 100)) ∨ ¬ ((i : Int) < (n : Int)) := by omega
      rcases hlt with ⟨g1, g2⟩ | g1
      all_goals
        go_wp2
        go_ret
        exact ⟨rfl, KL.out.1.bel⟩
end Go.Proofs.YthmhehehomieiaaGreat

/- The Go function tilthlaw13.CorePlays returns true for every input, and its arguments read afterwards as they read before: the given statement CorePlaysSaid, without further conditions. -/
namespace Go.Proofs.YthmhehehomieiaaGreat
open Go.ChangeShapes Go.WideShapes Go.ChangeAt Go.RowKit Go.Deep

set_option maxRecDepth 100000 in
theorem corePlays_lifted (os : Os) (started : os.Started) (H : Type) (enc : TypeId × Value → H) :
    ReturnsInHanded {} Tryz.checked os 4 .any (Rows.corePlaysSpec.pre6 enc Tryz.prog Tryz.f4 Rows.corePlaysRow.domain false) (Rows.corePlaysSpec.post enc Tryz.prog Tryz.f4 false true false false) := by
  refine returnsInHanded_of_change (C := Tryz.checked) own started (by kernel_rfl) Tryz.func4
    (ChangeSpec.witness6 (enc := enc) (C := Tryz.checked) false ⟨#[], #[.int .u8 0, .int .u8 0, .int .u8 0, .int .u8 0, .slice none 0 0], []⟩ 8 (by kernel_rfl) (by kernel_rfl) (by kernel_rfl) (by kernel_rfl)) ?_
  intro W base args ds gs before hval0 hW _ _
  have hval : ∀ (j : Nat) t v, Tryz.f4.params[j]? = some t → args[j]? = some v → Value.okWide Tryz.prog W .any base t v := hval0
  have hW0 := hW
  obtain ⟨p, q, hA0, _, _, _, _⟩ := hW
  have hA : DataW.TrodAll enc Tryz.prog W 0 (fun _ => true) true Tryz.f4.params.toList args.toList ds p := hA0
  rw [Tryz.params4] at hA hval
  obtain ⟨v0, vs0, d0, ds0, pl0, ql0, hargs, rfl, rfl, h0, r0⟩ := trodAll_cons hA
  obtain ⟨v1, vs1, d1, ds1, pl1, ql1, rfl, rfl, rfl, h1, r1⟩ := trodAll_cons r0
  obtain ⟨v2, vs2, d2, ds2, pl2, ql2, rfl, rfl, rfl, h2, r2⟩ := trodAll_cons r1
  obtain ⟨v3, vs3, d3, ds3, pl3, ql3, rfl, rfl, rfl, h3, r3⟩ := trodAll_cons r2
  obtain ⟨v4, vs4, d4, ds4, pl4, ql4, rfl, rfl, rfl, h4, r4⟩ := trodAll_cons r3
  obtain ⟨rfl, rfl, rfl⟩ := trodAll_nil r4
  obtain rfl : args = #[v0, v1, v2, v3, v4] := by cases args; simp_all
  obtain ⟨x0, rfl, rfl, rfl, wf0⟩ := open_int Tryz.underlying5 (hval 0 5 v0 rfl rfl) h0
  have bd0 : 0 ≤ x0 ∧ x0 ≤ 255 := bounds_int wf0
  obtain ⟨x1, rfl, rfl, rfl, wf1⟩ := open_int Tryz.underlying5 (hval 1 5 v1 rfl rfl) h1
  have bd1 : 0 ≤ x1 ∧ x1 ≤ 255 := bounds_int wf1
  obtain ⟨x2, rfl, rfl, rfl, wf2⟩ := open_int Tryz.underlying5 (hval 2 5 v2 rfl rfl) h2
  have bd2 : 0 ≤ x2 ∧ x2 ≤ 255 := bounds_int wf2
  obtain ⟨x3, rfl, rfl, rfl, wf3⟩ := open_int Tryz.underlying5 (hval 3 5 v3 rfl rfl) h3
  have bd3 : 0 ≤ x3 ∧ x3 ≤ 255 := bounds_int wf3
  obtain ⟨A4, N4, c4, rfl, nc4, cm4, rd4⟩ := open_steps (hval 4 47 v4 rfl rfl) h4
  exact (corePlays_walk x0 x1 x2 x3 bd0 bd1 bd2 bd3 A4 N4 c4 W rd4 nc4 cm4).mono fun e W' ⟨he, bel⟩ => ⟨_, he, law_post laidOut (by kernel_rfl) (by kernel_rfl) Tryz.underlying4 rfl
    (fun ds hds => by rw [Tryz.params4] at hds; match ds, hds with | [_, _, _, _, _], _ => rfl) hW0 bel⟩

theorem corePlays_holds : Rows.CorePlaysSaid :=
  OpenClaim.holds_of_wide 4 Tryz.f4 rfl rfl rfl rfl rfl rfl rfl ⟨rfl, rfl, rfl, rfl, rfl⟩ rfl rfl rfl rfl rfl (by kernel_rfl) Tryz.func4 (by kernel_rfl)
    (of_decide_eq_true (by kernel_rfl)) (by unfold Func.isWrapper; first | (rw [if_pos (by decide +kernel)]; kernel_rfl) | (rw [if_neg (by decide +kernel)]; exact ⟨rfl, rfl⟩))
    (fun os started H enc _ => corePlays_lifted os started H enc)
#print axioms corePlays_holds
end Go.Proofs.YthmhehehomieiaaGreat

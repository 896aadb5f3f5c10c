/- Texts of the layers below, joined: MtP. -/
import Derived.Test.YthmhehehomieiaaGreatJoinF

/- The walk of MinorRuns. -/
namespace Go.Proofs.YthmhehehomieiaaGreat
namespace Gc
open Go.RowKit

/-- Two cores beside what was shown of them so far. -/
def RnG (w0 : World) (b1 b2 : Nat) (s : Co) (P : Pts) (R : List Int) (m : Made) (w' : World) : Prop :=
  ∃ Z, Tc w0 w' Z b1 b2 s (s.re P) ∧ (∀ v, m 16 = some v → ∃ A n c, v = .slice A n c ∧ Qu w' A n c R ∧ n ≤ 1048576 ∧ ∀ k, blkOf A = some k → Z k) ∧ (∀ v, m 18 = some v → ∃ A n c, v = .slice A n c ∧ Qu w' A n c R ∧ n ≤ 1048576 ∧ ∀ k, blkOf A = some k → Z k)
section
variable {w0 w' w2 : World} {b1 b2 : Nat} {s : Co} {P : Pts} {R : List Int} {m : Made} {A : Hp}
theorem RnG.pure (h : RnG w0 b1 b2 s P R m w') (i : Nat) (v : Value) (hi : i ≠ 16) (hj : i ≠ 18) : RnG w0 b1 b2 s P R (m.upd i v) w' := by
  unfold RnG at h ⊢
  rwa [show m.upd i v 16 = m 16 from if_neg (Ne.symm hi), show m.upd i v 18 = m 18 from if_neg (Ne.symm hj)]
theorem RnG.keep (h : RnG w0 b1 b2 s P R m w') (f : Below w'.heap.size w' w2) : RnG w0 b1 b2 s P R m w2 := by
  obtain ⟨Z, t, h1, h2⟩ := h
  exact ⟨Z, t.keep f, fun v hv => let ⟨A, n, c, e, q, r⟩ := h1 v hv; ⟨A, n, c, e, q.keep f, r⟩, fun v hv => let ⟨A, n, c, e, q, r⟩ := h2 v hv; ⟨A, n, c, e, q.keep f, r⟩⟩
theorem RnG.mv1 (h : RnG w0 b1 b2 s P R m w') : w'.cell? ⟨b1, 21, none⟩ = some (.bool s.mv) := by
  obtain ⟨Z, t, _⟩ := h
  obtain ⟨_, k, _⟩ := t.first
  exact km_moving k
theorem RnG.mv2 (h : RnG w0 b1 b2 s P R m w') : w'.cell? ⟨b2, 21, none⟩ = some (.bool s.mv) := by
  obtain ⟨Z, t, _⟩ := h
  obtain ⟨_, k, _⟩ := t.swap.first
  exact (km_moving k : w'.cell? ⟨b2, 21, none⟩ = some (.bool (s.re P).mv))
theorem RnG.first (h : RnG w0 b1 b2 s P (shR s A) m w') (c : Cyc s A) (hM : 2 * s.cf.nu + s.cf.ps * s.cf.pz + 1 ≤ 938) :
    Calls Tryz.prog 48 #[ptr b1] w' fun e w2 => ∃ A1 n1 c1, e = .returned (.slice A1 n1 c1) ∧ RnG w0 b1 b2 s P (shR s A) (m.upd 16 (.slice A1 n1 c1)) w2 := by
  obtain ⟨Z, t, _, h2⟩ := h
  refine (t.shown c hM).mono ?_
  rintro e w2 ⟨Aq, cq, n, he, qu, hn, t2, p2⟩
  refine ⟨Aq, n, cq, he, _, t2, fun v hv => ?_, fun v hv => ?_⟩
  · rw [show m.upd 16 (.slice Aq n cq) 16 = some (.slice Aq n cq) from if_pos rfl] at hv
    cases hv
    exact ⟨Aq, n, cq, rfl, qu, hn, fun k e => .inr e⟩
  · rw [show m.upd 16 (.slice Aq n cq) 18 = m 18 from if_neg (by decide)] at hv
    obtain ⟨A2, n2, c2, e, q, r1, r2⟩ := h2 v hv
    exact ⟨A2, n2, c2, e, q.kp p2 r2, r1, fun k e => .inl (r2 k e)⟩
theorem RnG.second (h : RnG w0 b1 b2 s P (shR s A) m w') (c : Cyc s A) (hM : 2 * s.cf.nu + s.cf.ps * s.cf.pz + 1 ≤ 938) :
    Calls Tryz.prog 48 #[ptr b2] w' fun e w2 => ∃ A1 n1 c1, e = .returned (.slice A1 n1 c1) ∧ RnG w0 b1 b2 s P (shR s A) (m.upd 18 (.slice A1 n1 c1)) w2 := by
  obtain ⟨Z, t, h2, _⟩ := h
  refine (t.swap.shown (c.re P) hM).mono ?_
  rintro e w2 ⟨Aq, cq, n, he, qu, hn, t2, p2⟩
  refine ⟨Aq, n, cq, he, _, t2.swap, fun v hv => ?_, fun v hv => ?_⟩
  · rw [show m.upd 18 (.slice Aq n cq) 16 = m 16 from if_neg (by decide)] at hv
    obtain ⟨A2, n2, c2, e, q, r1, r2⟩ := h2 v hv
    exact ⟨A2, n2, c2, e, q.kp p2 r2, r1, fun k e => .inl (r2 k e)⟩
  · rw [show m.upd 18 (.slice Aq n cq) 18 = some (.slice Aq n cq) from if_pos rfl] at hv
    cases hv
    exact ⟨Aq, n, cq, rfl, qu, hn, fun k e => .inr e⟩
theorem RnG.ints (h : RnG w0 b1 b2 s P R m w') {k1 k2 : Option Addr × Nat × Nat} (h16 : m 16 = some (.slice k1.1 k1.2.1 k1.2.2)) (h18 : m 18 = some (.slice k2.1 k2.2.1 k2.2.2)) :
    Calls Tryz.prog 49 #[.slice k1.1 k1.2.1 k1.2.2, .slice k2.1 k2.2.1 k2.2.2] w' fun e w2 => e = .returned (.bool true) ∧ RnG w0 b1 b2 s P R m w2 := by
  have h' := h
  obtain ⟨Z, t, h1, h2⟩ := h
  obtain ⟨A1, n1, c1, e1, q1, l1, _⟩ := h1 _ h16
  obtain ⟨A2, n2, c2, e2, q2, _, _⟩ := h2 _ h18
  have n12 : n2 = n1 := q2.len.symm.trans q1.len
  subst n12
  rw [e1, e2]
  exact (ints_qu A1 A2 _ c1 c2 _ w' q1 q2 l1).mono fun e w2 ⟨he, b⟩ => ⟨he, h'.keep b⟩
end

def RunW (b1 b2 : Nat) (d : Int) (mv : Bool) : Nat → Value → Prop
  | 0 => fun v => v = .int .i64 d
  | 1 => fun v => v = .int .i64 d
  | 2 => fun v => v = .bool true
  | 3 => fun v => v = .bool true
  | 4 => fun v => v = ptr b1
  | 5 => fun v => v = ptr b1
  | 6 => fun v => v = .pointer (some ⟨b1, 21, none⟩)
  | 7 => fun v => v = .bool mv
  | 8 => fun v => v = ptr b2
  | 9 => fun v => v = ptr b2
  | 10 => fun v => v = .pointer (some ⟨b2, 21, none⟩)
  | 11 => fun v => v = .bool mv
  | 12 => fun v => v = .bool true
  | 13 => fun v => v = .bool true
  | 14 => fun v => v = .bool true
  | 15 => fun v => v = ptr b1
  | 16 => fun v => ∃ k : Option Addr × Nat × Nat, v = .slice k.1 k.2.1 k.2.2
  | 17 => fun v => v = ptr b2
  | 18 => fun v => ∃ k : Option Addr × Nat × Nat, v = .slice k.1 k.2.1 k.2.2
  | 19 => fun v => v = .bool true
  | 20 => fun v => v = .bool true
  | _ => fun _ => True
theorem RunW_some (b1 b2 : Nat) (d : Int) (mv : Bool) : ∀ i, ∃ v, RunW b1 b2 d mv i v
  | 0 => ⟨_, rfl⟩
  | 1 => ⟨_, rfl⟩
  | 2 => ⟨_, rfl⟩
  | 3 => ⟨_, rfl⟩
  | 4 => ⟨_, rfl⟩
  | 5 => ⟨_, rfl⟩
  | 6 => ⟨_, rfl⟩
  | 7 => ⟨_, rfl⟩
  | 8 => ⟨_, rfl⟩
  | 9 => ⟨_, rfl⟩
  | 10 => ⟨_, rfl⟩
  | 11 => ⟨_, rfl⟩
  | 12 => ⟨_, rfl⟩
  | 13 => ⟨_, rfl⟩
  | 14 => ⟨_, rfl⟩
  | 15 => ⟨_, rfl⟩
  | 16 => ⟨_, (none, 0, 0), rfl⟩
  | 17 => ⟨_, rfl⟩
  | 18 => ⟨_, (none, 0, 0), rfl⟩
  | 19 => ⟨_, rfl⟩
  | 20 => ⟨_, rfl⟩
  | _ + 21 => ⟨undef, trivial⟩

attribute [local go_sem] madeUpon

set_option maxHeartbeats 4000000 in
set_option maxRecDepth 100000 in
theorem minorRuns_walk (a b c d : Int) (ha : By a) (hb : By b) (hc : By c) (hd : By d) (Aq : Option Addr) (n cp : Nat) (wk : Int) (w : World) (rd : RdAc w Aq n) (_ : n ≤ cp) (_ : cp ≤ maxLen) :
    Calls Tryz.prog 15 #[.int .u8 a, .int .u8 b, .int .u8 c, .int .u8 d, .slice Aq n cp, .int .i64 wk] w fun e w' => e = .returned (.bool true) ∧ Below w.heap.size w w' := by
  have SM : Hid (2 * (cfgOf a b c d).nu + (cfgOf a b c d).ps * (cfgOf a b c d).pz + 1 ≤ 938 ∧ (cfgOf a b c d).bf ≤ 3) := Lib.hid (by
    obtain ⟨a0, a1⟩ := ha
    obtain ⟨b0, b1⟩ := hb
    have p := mul_in (a := b / 16 % 12 + 1) (b := 16 + 16 * (a / 64)) (A := 12) (B := 64) (by omega) (by omega) (by omega) (by omega)
    refine ⟨?_, by show c / 4 % 4 ≤ 3; omega⟩
    show 2 * (24 + b % 60) + (b / 16 % 12 + 1) * (16 + 16 * (a / 64)) + 1 ≤ 938
    omega)
  have HC := Lib.hid (config14_any a b c d ha hb hc hd)
  have HM := Lib.hid (cfgOf_may a b c d ha hb hc hd)
  have RD := Lib.hid rd
  clear ha hb hc hd rd
  generalize cfgOf a b c d = cf at *
  go_enter Tryz.func15, Tryz.ntmps15
  go_wp2_with fail
  refine (HC.out _).mono ?_
  rintro e w1 ⟨rfl, b1⟩
  have HN := Lib.hid (km_new (w0 := w) (Z := noZ) HM.out b1 (fun _ e => e.elim))
  clear b1
  go_wp2_with fail
  refine HN.out.mono ?_
  rintro e w2 ⟨b1, pt1, rfl, k2, _⟩
  have K2 := Lib.hid k2
  clear k2 HN
  go_wp2_with fail
  refine (HC.out _).mono ?_
  rintro e w3 ⟨rfl, b3⟩
  have HN := Lib.hid (tc_new (K2.out.keep b3) HM.out)
  clear b3 K2 HC
  go_wp2_with fail
  refine HN.out.mono ?_
  rintro e w4 ⟨b2, pt2, rfl, t4⟩
  have T4 := Lib.hid t4
  clear t4 HN
  go_wp2_with fail
  refine (awake14_walk _).mono ?_
  rintro e w5 ⟨rfl, b5⟩
  have KL : Hid (Tm w w5 b1 b2 cf 0) := Lib.hid ⟨_, _, pt2, T4.out.keep b5, fresh_cyc HM.out pt1, rfl, nb_fresh⟩
  clear b5 T4 HM
  go_wp2_with fail
  go_loopw [17] (fun s wr => ∃ (i : Nat), i ≤ n ∧ i ≤ 60 ∧ s = .int .i64 i ∧ Hid (Tm w wr b1 b2 cf i)) (fun s _ => n - (intOf s).toNat)
  case atStart => exact ⟨0, Nat.zero_le _, Nat.zero_le _, rfl, KL⟩
  case round =>
    clear KL
    obtain ⟨i, hi, hi2, rfl, KL⟩ := hrel
    by_cases hlt : i < n ∧ i < 60
    · obtain ⟨h1, h2⟩ := hlt
      obtain ⟨ad, k, x, p, q, rfl, _, _, iq, hcell⟩ := RD.out i h1
      obtain ⟨s, A, P, tc, C, ec, nb⟩ := KL.out
      obtain ⟨c0, c1, c2, c3⟩ := hcell _ tc.bel
      have h3 : (i : Int) < (n : Int) := by omega
      have h4 : (i : Int) < 60 := by omega
      have h5 : (0 : Int) ≤ (i : Int) := by omega
      have HD := Lib.hid (tc.act C nb (by omega) k x p q iq.2)
      have NB := Lib.hid nb
      have EC := Lib.hid ec
      have CC := Lib.hid C
      have HCE := Lib.hid hcell
      clear KL tc hcell C nb ec
      go_wp2_with fail
      refine HD.out.mono ?_
      rintro e w6 ⟨s', B, E, rfl, qq, dd, t6⟩
      clear c0 c1 c2 c3
      obtain ⟨c0, c1, c2, c3⟩ := HCE.out _ t6.bel
      have HD2 := Lib.hid (t6.again CC.out NB.out (by omega) iq.2 dd)
      have C4 := Lib.hid qq.cyc
      have N4 := Lib.hid (qq.nb i (by omega) NB.out)
      have E4 := Lib.hid (qq.cf.trans EC.out)
      clear qq t6 dd HD NB EC CC HCE
      go_wp2_with fail
      refine HD2.out.mono ?_
      rintro e w7 ⟨E2, rfl, t7⟩
      have KN : Hid (Tm w w7 b1 b2 cf (i + 1)) := Lib.hid ⟨s', B, P, t7, C4.out, E4.out, N4.out⟩
      clear t7 C4 E4 N4 HD2 c0 c1 c2 c3
      go_wp2
      go_roundw
      case rel => exact ⟨i + 1, by omega, by omega, by go_num, KN⟩
      case measure => simp [intOf]; omega
    · have hlt : ((i : Int) < (n : Int) ∧ ¬ ((i : Int) < 60)) ∨ ¬ ((i : Int) < (n : Int)) := by omega
      obtain ⟨s, A, P, tc, C, ec, _⟩ := KL.out
      have CC := Lib.hid C
      have EC := Lib.hid ec
      have LF := Lib.hid (show left_ s A ≤ 1000 from by
        obtain ⟨S2, km, _⟩ := tc.first
        obtain ⟨S, hC⟩ := km.cr
        have h1 := left_few hC C
        have h2 := SM.out
        rw [ec] at h1
        omega)
      have HR := Lib.hid (tc.run C LF.out wk)
      clear tc C ec KL RD
      generalize wr = wo at *
      rcases hlt with ⟨g1, g2⟩ | g1
      all_goals
        go_wp2_with fail
        refine HR.out.mono ?_
        rintro e w5 ⟨d1, s', B, rfl, d10, d11, cB, ecB, fd, tc⟩
        obtain ⟨S1, km, g⟩ := tc.swap.first
        have FN : Hid (∀ wr d t C, Km w wr (fun k => noZ k ∨ S1 k) b2 t → Kp (fun k => noZ k ∨ S1 k) w5 wr → FinD (s.re P) A wk d t C → d = d1 ∧ Te w wr b1 b2 cf) := Lib.hid (fun wr d t C k p f => tc_same g cB (ecB.trans EC.out) fd k p f)
        have R0 := Lib.hid (rn_start (work := wk) (s := s.re P) (A := A) (L := 1000) km (CC.out.re P) LF.out)
        clear tc km g cB ecB fd HR
        go_upto_block 2 with (fail)
        go_cut [19] (fun s19 wc => Hid (s19 = .int .i64 d1 ∧ Te w wc b1 b2 cf))
        case first =>
          go_wp2_with fail
          go_loopw [19] (fun s19 wr => ∃ (m : Nat) (d : Int), m ≤ 1001 ∧ s19 = .int .i64 d ∧ Hid (RnI w w5 wr (fun k => noZ k ∨ S1 k) b2 (s.re P) A wk 1000 m d true)) (fun s19 _ => 300600001 - (intOf s19).toNat)
          case atStart => exact ⟨0, 0, by omega, rfl, R0⟩
          case round =>
            clear R0
            obtain ⟨m, d, hm, rfl, R⟩ := hrel
            have c0 := R.out.moving
            obtain ⟨_, e0, e1⟩ := R.out.few
            cases hv : s.mv
            · have c21 : wr.cell? ⟨b2, 21, none⟩ = some (.bool false) := by
                rwa [show ((s.re P).mv && true) = false from by show (s.mv && true) = false; rw [hv]; rfl] at c0
              clear c0
              obtain ⟨t, C, k, p, _, _, fin⟩ := R.out.still hv
              obtain ⟨rfl, te⟩ := FN.out wr d t C k p fin
              have KE : Hid (Te w wr b1 b2 cf) := Lib.hid te
              clear R k p fin te
              go_wp2
              go_meet
              case rel => exact Lib.hid ⟨rfl, KE.out⟩
            · have c21 : wr.cell? ⟨b2, 21, none⟩ = some (.bool true) := by
                rwa [show ((s.re P).mv && true) = true from by show (s.mv && true) = true; rw [hv]; rfl] at c0
              clear c0
              by_cases hw2 : d < wk
              · have HS := Lib.hid (R.out.step hw2)
                clear R
                go_wp2_with fail
                refine HS.out.mono ?_
                rintro e w6 ⟨n6, y, rfl, n0, n1, hy, rn⟩
                have hw : IntKind.i64.wrap (d + n6) = d + n6 := IntWalk.i64_in _ (by omega)
                have few := rn.few
                cases y
                · obtain ⟨t, C, k, p, _, _, fin⟩ := rn.done (.inl rfl)
                  obtain ⟨rfl, te⟩ := FN.out _ _ t C k p fin
                  have KE : Hid (Te w w6 b1 b2 cf) := Lib.hid te
                  clear rn k p fin te HS c21
                  go_wp2
                  go_meet
                  case rel => exact Lib.hid ⟨rfl, KE.out⟩
                · have RN := Lib.hid rn
                  have n2 := hy rfl
                  clear rn HS c21
                  go_wp2
                  go_roundw
                  case rel => exact ⟨m + 1, d + n6, by omega, by rw [← hw], RN⟩
                  case measure => simp [intOf] <;> omega
              · obtain ⟨t, C, k, p, _, _, fin⟩ := R.out.done (.inr hw2)
                obtain ⟨rfl, te⟩ := FN.out wr d t C k p fin
                have KE : Hid (Te w wr b1 b2 cf) := Lib.hid te
                clear R k p fin te
                go_wp2
                go_meet
                case rel => exact Lib.hid ⟨rfl, KE.out⟩
        case rest =>
          as_aux_lemma =>
          obtain ⟨rfl, s2, A2, P2, tc, c, ec2⟩ := hcut.out
          have C := Lib.hid c
          have HM2 := Lib.hid (show 2 * s2.cf.nu + s2.cf.ps * s2.cf.pz + 1 ≤ 938 from by rw [ec2]; exact SM.out.1)
          have GG : Hid (RnG w b1 b2 s2 P2 (shR s2 A2) (fun _ => none) wc) := Lib.hid ⟨noZ, tc, fun v hv => (by cases hv), fun v hv => (by cases hv)⟩
          clear tc c ec2 hcut
          go_wp2_with fail
          refine region_made_tailG (RnG w b1 b2 s2 P2 (shR s2 A2)) (RunW b1 b2 d1 s2.mv) 21 (by kernel_rfl) (by kernel_rfl) (RunW_some _ _ _ _) (GG.out.keep (below_drew _)) ?_
          simp only [List.take_succ_cons, List.take_zero, List.drop_succ_cons, List.drop_zero]
          refine wpMadeG_step ?_ ?_
          · refine .inl ⟨by rfl, ?_⟩
            intro m' w' hg hag
            go_simp
            first | exact rfl | exact ⟨rfl, hg.pure _ _ (by decide) (by decide)⟩ | exact ⟨by simp, hg.pure _ _ (by decide) (by decide)⟩
          intro K hK
          rintro _ rfl
          go_simp
          refine hK _ _ ?_
          clear hK K
          refine wpMadeG_step ?_ ?_
          · refine .inl ⟨by rfl, ?_⟩
            intro m' w' hg hag
            go_simp
            first | exact rfl | exact ⟨rfl, hg.pure _ _ (by decide) (by decide)⟩ | exact ⟨by simp, hg.pure _ _ (by decide) (by decide)⟩
          intro K hK
          rintro _ rfl
          go_simp
          refine hK _ _ ?_
          clear hK K
          refine wpMadeG_step ?_ ?_
          · refine .inl ⟨by rfl, ?_⟩
            intro m' w' hg hag
            go_simp
            first | exact rfl | exact ⟨rfl, hg.pure _ _ (by decide) (by decide)⟩ | exact ⟨by simp, hg.pure _ _ (by decide) (by decide)⟩
          intro K hK
          rintro _ rfl
          go_simp
          refine hK _ _ ?_
          clear hK K
          refine wpMadeG_step ?_ ?_
          · refine .inl ⟨by rfl, ?_⟩
            intro m' w' hg hag
            go_simp
            first | exact rfl | exact ⟨rfl, hg.pure _ _ (by decide) (by decide)⟩ | exact ⟨by simp, hg.pure _ _ (by decide) (by decide)⟩
          intro K hK
          rintro _ rfl
          go_simp
          refine hK _ _ ?_
          clear hK K
          refine wpMadeG_step ?_ ?_
          · refine .inl ⟨by rfl, ?_⟩
            intro m' w' hg hag
            go_simp
            first | exact rfl | exact ⟨rfl, hg.pure _ _ (by decide) (by decide)⟩ | exact ⟨by simp, hg.pure _ _ (by decide) (by decide)⟩
          intro K hK
          rintro _ rfl
          go_simp
          refine hK _ _ ?_
          clear hK K
          refine wpMadeG_step ?_ ?_
          · refine .inl ⟨by rfl, ?_⟩
            intro m' w' hg hag
            go_simp
            first | exact rfl | exact ⟨rfl, hg.pure _ _ (by decide) (by decide)⟩ | exact ⟨by simp, hg.pure _ _ (by decide) (by decide)⟩
          intro K hK
          rintro _ rfl
          go_simp
          refine hK _ _ ?_
          clear hK K
          refine wpMadeG_step ?_ ?_
          · refine .inl ⟨by rfl, ?_⟩
            intro m' w' hg hag
            go_simp
            first | exact rfl | exact ⟨rfl, hg.pure _ _ (by decide) (by decide)⟩ | exact ⟨by simp, hg.pure _ _ (by decide) (by decide)⟩
          intro K hK
          rintro _ rfl
          go_simp
          refine hK _ _ ?_
          clear hK K
          refine wpMadeG_step ?_ ?_
          · refine .inl ⟨by rfl, ?_⟩
            intro m' w' hg hag
            have q1 := hg.mv1
            go_simp
            first | exact rfl | exact ⟨rfl, hg.pure _ _ (by decide) (by decide)⟩ | exact ⟨by simp, hg.pure _ _ (by decide) (by decide)⟩
          intro K hK
          rintro _ rfl
          go_simp
          refine hK _ _ ?_
          clear hK K
          refine wpMadeG_step ?_ ?_
          · refine .inl ⟨by rfl, ?_⟩
            intro m' w' hg hag
            go_simp
            first | exact rfl | exact ⟨rfl, hg.pure _ _ (by decide) (by decide)⟩ | exact ⟨by simp, hg.pure _ _ (by decide) (by decide)⟩
          intro K hK
          rintro _ rfl
          go_simp
          refine hK _ _ ?_
          clear hK K
          refine wpMadeG_step ?_ ?_
          · refine .inl ⟨by rfl, ?_⟩
            intro m' w' hg hag
            go_simp
            first | exact rfl | exact ⟨rfl, hg.pure _ _ (by decide) (by decide)⟩ | exact ⟨by simp, hg.pure _ _ (by decide) (by decide)⟩
          intro K hK
          rintro _ rfl
          go_simp
          refine hK _ _ ?_
          clear hK K
          refine wpMadeG_step ?_ ?_
          · refine .inl ⟨by rfl, ?_⟩
            intro m' w' hg hag
            go_simp
            first | exact rfl | exact ⟨rfl, hg.pure _ _ (by decide) (by decide)⟩ | exact ⟨by simp, hg.pure _ _ (by decide) (by decide)⟩
          intro K hK
          rintro _ rfl
          go_simp
          refine hK _ _ ?_
          clear hK K
          refine wpMadeG_step ?_ ?_
          · refine .inl ⟨by rfl, ?_⟩
            intro m' w' hg hag
            have q1 := hg.mv2
            go_simp
            first | exact rfl | exact ⟨rfl, hg.pure _ _ (by decide) (by decide)⟩ | exact ⟨by simp, hg.pure _ _ (by decide) (by decide)⟩
          intro K hK
          rintro _ rfl
          go_simp
          refine hK _ _ ?_
          clear hK K
          refine wpMadeG_step ?_ ?_
          · refine .inl ⟨by rfl, ?_⟩
            intro m' w' hg hag
            go_simp
            first | exact rfl | exact ⟨rfl, hg.pure _ _ (by decide) (by decide)⟩ | exact ⟨by simp, hg.pure _ _ (by decide) (by decide)⟩
          intro K hK
          rintro _ rfl
          go_simp
          refine hK _ _ ?_
          clear hK K
          refine wpMadeG_step ?_ ?_
          · refine .inl ⟨by rfl, ?_⟩
            intro m' w' hg hag
            go_simp
            first | exact rfl | exact ⟨rfl, hg.pure _ _ (by decide) (by decide)⟩ | exact ⟨by simp, hg.pure _ _ (by decide) (by decide)⟩
          intro K hK
          rintro _ rfl
          go_simp
          refine hK _ _ ?_
          clear hK K
          refine wpMadeG_step ?_ ?_
          · refine .inl ⟨by rfl, ?_⟩
            intro m' w' hg hag
            go_simp
            first | exact rfl | exact ⟨rfl, hg.pure _ _ (by decide) (by decide)⟩ | exact ⟨by simp, hg.pure _ _ (by decide) (by decide)⟩
          intro K hK
          rintro _ rfl
          go_simp
          refine hK _ _ ?_
          clear hK K
          refine wpMadeG_step ?_ ?_
          · refine .inl ⟨by rfl, ?_⟩
            intro m' w' hg hag
            go_simp
            first | exact rfl | exact ⟨rfl, hg.pure _ _ (by decide) (by decide)⟩ | exact ⟨by simp, hg.pure _ _ (by decide) (by decide)⟩
          intro K hK
          rintro _ rfl
          go_simp
          refine hK _ _ ?_
          clear hK K
          refine wpMadeG_step ?_ ?_
          · refine .inl ⟨by rfl, ?_⟩
            intro m' w' hg hag
            go_simp
            exact (hg.first C.out HM2.out).mono fun e w3 ⟨A1, n1, c1, he, h3⟩ => ⟨_, he, ⟨(A1, n1, c1), rfl⟩, h3⟩
          intro K hK
          rintro _ ⟨k1, rfl⟩
          go_simp
          refine hK _ _ ?_
          clear hK K
          refine wpMadeG_step ?_ ?_
          · refine .inl ⟨by rfl, ?_⟩
            intro m' w' hg hag
            go_simp
            first | exact rfl | exact ⟨rfl, hg.pure _ _ (by decide) (by decide)⟩ | exact ⟨by simp, hg.pure _ _ (by decide) (by decide)⟩
          intro K hK
          rintro _ rfl
          go_simp
          refine hK _ _ ?_
          clear hK K
          refine wpMadeG_step ?_ ?_
          · refine .inl ⟨by rfl, ?_⟩
            intro m' w' hg hag
            go_simp
            exact (hg.second C.out HM2.out).mono fun e w3 ⟨A1, n1, c1, he, h3⟩ => ⟨_, he, ⟨(A1, n1, c1), rfl⟩, h3⟩
          intro K hK
          rintro _ ⟨k2, rfl⟩
          go_simp
          refine hK _ _ ?_
          clear hK K
          refine wpMadeG_step ?_ ?_
          · refine .inl ⟨by rfl, ?_⟩
            intro m' w' hg hag
            have h16 := hag 16 (.inr ⟨⟨16, .data⟩, by simp, by rfl, rfl⟩)
            have h18 := hag 18 (.inr ⟨⟨18, .data⟩, by simp, by rfl, rfl⟩)
            go_simp
            exact (hg.ints h16 h18).mono fun e w3 ⟨he, h3⟩ => ⟨_, he, rfl, h3.pure _ _ (by decide) (by decide)⟩
          intro K hK
          rintro _ rfl
          go_simp
          refine hK _ _ ?_
          clear hK K
          refine wpMadeG_step ?_ ?_
          · refine .inl ⟨by rfl, ?_⟩
            intro m' w' hg hag
            go_simp
            first | exact rfl | exact ⟨rfl, hg.pure _ _ (by decide) (by decide)⟩ | exact ⟨by simp, hg.pure _ _ (by decide) (by decide)⟩
          intro K hK
          rintro _ rfl
          go_simp
          refine hK _ _ ?_
          clear hK K
          refine wpMadeG_nil ?_
          intro w9 hg
          have BE : Hid (Below w.heap.size w w9) := Lib.hid (by obtain ⟨Z, t, _⟩ := hg; exact t.bel)
          clear hg GG
          go_wp2
          go_ret
          exact ⟨rfl, BE.out⟩
end Gc
end Go.Proofs.YthmhehehomieiaaGreat

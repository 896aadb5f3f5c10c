/- The Go function tilthlaw13.CoreFresh returns true for every input, and its arguments read afterwards as they read before: the given statement CoreFreshSaid, without further conditions. -/
import Derived.Test.YthmhehehomieiaaGreatJoinG
import Derived.Deep.RegionHeld3

/- What the walks over scripts share; the walk of CoreCopies. -/
namespace Go.Proofs.YthmhehehomieiaaGreat
open Go.RowKit

theorem change_len (G : Gr) (k a b c v : Int) : (G.change k a b c v).2.hs.length = G.hs.length := by
  unfold Gr.change Gr.hold Gr.setNode
  repeat' split
  all_goals simp
theorem doG_len (nu : Int) (G : Gr) (k a p q v : Int) : (doG nu G k a p q v).hs.length = G.hs.length := by
  unfold doG stG
  split
  · split
    · rfl
    · exact change_len _ _ _ _ _ _
  · rfl

/-- Two handles are there. -/
theorem Gr.two {G : Gr} (h : 2 ≤ G.hs.length) : ∃ ns x0 x1 r lg, G = ⟨ns, x0 :: x1 :: r, lg⟩ := by
  obtain ⟨ns, hs, lg⟩ := G
  match hs, h with
  | x0 :: x1 :: r, _ => exact ⟨ns, x0, x1, r, lg, rfl⟩

section
variable (ns : List Node2) (x0 x1 : Int) (r : List Int) (lg : Int)
theorem two_has0 : (Gr.mk ns (x0 :: x1 :: r) lg).has 0 = true := by simp [Gr.has]; omega
theorem two_has1 : (Gr.mk ns (x0 :: x1 :: r) lg).has 1 = true := by simp [Gr.has]; omega
theorem two_held0 : (Gr.mk ns (x0 :: x1 :: r) lg).held 0 = x0 := rfl
theorem two_held1 : (Gr.mk ns (x0 :: x1 :: r) lg).held 1 = x1 := rfl
theorem two_copy : (Gr.mk ns (x0 :: x1 :: r) lg).change 7 0 1 0 0 = (0, ⟨ns, x1 :: x1 :: r, lg⟩) := by
  unfold Gr.change
  simp only [two_has0, two_has1]
  rfl
theorem two_clear1 : (Gr.mk ns (x0 :: x1 :: r) lg).change 6 1 0 0 0 = (0, ⟨ns, x0 :: 0 :: r, lg⟩) := by
  unfold Gr.change
  simp only [two_has1]
  rfl
theorem two_same : (Gr.mk ns (x0 :: x1 :: r) lg).ask 8 0 1 = (0, x0 == x1, 0, 0) := by
  unfold Gr.ask
  simp only [two_has0, two_has1]
  rfl
theorem two_nil0 : (Gr.mk ns (x0 :: x1 :: r) lg).ask 9 0 0 = (0, x0 == 0, 0, 0) := by
  unfold Gr.ask
  simp only [two_has0]
  rfl
theorem two_nil1 : (Gr.mk ns (x0 :: x1 :: r) lg).ask 9 1 0 = (0, x1 == 0, 0, 0) := by
  unfold Gr.ask
  simp only [two_has1]
  rfl
end

/-- The core holds a graph with so many handles. -/
def Kl (w0 w : World) (Z : Nat → Prop) (b : Nat) (c : Cfg) (n : Nat) : Prop := ∃ G, Kg w0 w Z b c G ∧ G.hs.length = n

set_option maxHeartbeats 8000000 in
set_option maxRecDepth 100000 in
theorem coreCopies_walk (a b c d : Int) (ha : By a) (hb : By b) (hc : By c) (hd : By d) (A : Option Addr) (n cp : Nat) (w : World) (rd : RdSt w A n) (_ : n ≤ cp) (_ : cp ≤ maxLen) :
    Calls Tryz.prog 10 #[.int .u8 a, .int .u8 b, .int .u8 c, .int .u8 d, .slice A n cp] w fun e w' => e = .returned (.bool true) ∧ Below w.heap.size w w' := by
  have HC := Lib.hid (config_any a b c d ha hb hc hd)
  have HM := Lib.hid (cfgOf_may a b c d ha hb hc hd)
  have HH := Lib.hid (show (Gr.none_ (cfgOf a b c d)).hs.length = (cfgOf a b c d).ha.toNat from zeros_length _)
  have H2 := Lib.hid (show 2 ≤ (cfgOf a b c d).ha.toNat from by show 2 ≤ (a % 5 + 2).toNat; have := ha.1; omega)
  have RD := Lib.hid rd
  clear ha hb hc hd rd
  generalize cfgOf a b c d = cf at *
  go_enter Tryz.func10, Tryz.ntmps10
  go_wp2_with fail
  refine (HC.out _).mono ?_
  rintro e w1 ⟨rfl, b1⟩
  have HN := Lib.hid (kg_new (w0 := w) (Z := noZ) HM.out b1 (fun _ e => e.elim))
  clear b1 HC
  go_wp2_with fail
  refine HN.out.mono ?_
  rintro e w2 ⟨b, rfl, k2, _⟩
  have K2 := Lib.hid k2
  clear k2 HN HM
  go_wp2_with fail
  refine (awake13_walk _).mono ?_
  rintro e w3 ⟨rfl, b3⟩
  have KL := Lib.hid (show Kl w w3 noZ b cf cf.ha.toNat from ⟨_, K2.out.keep b3, HH.out⟩)
  clear b3 K2 HH
  go_wp2_with fail
  go_loopw [13] (fun s wr => ∃ (i : Nat), i ≤ n ∧ i ≤ 60 ∧ s = .int .i64 i ∧ Hid (Kl w wr noZ b cf cf.ha.toNat)) (fun s _ => n - (intOf s).toNat)
  case atStart => exact ⟨0, Nat.zero_le _, Nat.zero_le _, rfl, KL⟩
  case round =>
    clear KL
    obtain ⟨i, hi, hi2, rfl, KL⟩ := hrel
    by_cases hlt : i < n ∧ i < 60
    · obtain ⟨h1, h2⟩ := hlt
      obtain ⟨ad, k, x, p, q, v, rfl, _, iq, hcell⟩ := RD.out i h1
      obtain ⟨G, HG, hL⟩ := KL.out
      obtain ⟨c0, c1, c2, c3, c4⟩ := hcell _ HG.bel
      have HD := Lib.hid (kg_do HG k x p q v iq.2)
      have hL := Lib.hid ((doG_len cf.nu G k x p q v).trans hL)
      have h3 : (i : Int) < (n : Int) := by omega
      have h4 : (i : Int) < 60 := by omega
      have h5 : (0 : Int) ≤ (i : Int) := by omega
      clear KL HG hcell
      go_wp2_with fail
      refine HD.out.mono ?_
      rintro e w2 ⟨rfl, k2, _⟩
      have KN := Lib.hid (show Kl w w2 noZ b cf cf.ha.toNat from ⟨_, k2, hL.out⟩)
      clear k2 HD hL c0 c1 c2 c3 c4
      go_wp2
      go_roundw
      case rel => exact ⟨i + 1, by omega, by omega, by go_num, KN⟩
      case measure => simp [intOf]; omega
    · have hlt : ((i : Int) < (n : Int) ∧ ¬ ((i : Int) < 60)) ∨ ¬ ((i : Int) < (n : Int)) := by omega
      generalize wr = wo at *
      clear RD hi hi2
      obtain ⟨G, HG, hL⟩ := KL.out
      obtain ⟨ns, x0, x1, r, lg, rfl⟩ := Gr.two (G := G) (by rw [hL]; exact H2.out)
      have K := Lib.hid HG
      have HS := Lib.hid (kg_stats HG)
      clear KL HG hL H2
      simp only at HS
      obtain ⟨m1, hm1⟩ : ∃ m1 : Int, (ns.length : Int) = m1 := ⟨_, rfl⟩
      obtain ⟨m2, hm2⟩ : ∃ m2 : Int, (tot ns : Int) = m2 := ⟨_, rfl⟩
      rw [hm1, hm2] at HS
      have HM := Lib.hid (And.intro hm1 hm2)
      clear hm1 hm2
      rcases hlt with ⟨g1, g2⟩ | g1
      all_goals
        go_wp2_with fail
        refine HS.out.mono ?_
        rintro e w4 ⟨rfl, b4⟩
        have K4 := Lib.hid ((K.out.keep b4).grow (Z' := fun k => k = w4.heap.size) ((Below.refl _ w4).alloc (Nat.le_refl _) (stO8 m1 m2 0 0 0 m2 0 (cf.ps * cf.pz))) (fun k e => .inr ⟨by omega, by subst e; simp⟩))
        have X4 := Lib.hid (Blk.new w4 (stL8 m1 m2 0 0 0 m2 0 (cf.ps * cf.pz)) 31)
        clear b4 HS K
        go_wp2_with fail
        have h := kg_copy K4.out 0 1
        rw [two_copy] at h
        refine h.mono ?_
        rintro e w5 ⟨rfl, k5, p5⟩
        have K5 := Lib.hid k5
        have X5 := Lib.hid (X4.out.kp p5 rfl)
        clear h k5 p5 K4 X4
        go_wp2_with fail
        have h := kg_same K5.out 0 1
        rw [two_same, beq_self_eq_true] at h
        refine h.mono ?_
        rintro e w6 ⟨rfl, rfl⟩
        clear h
        go_wp2_with fail
        have h := kg_nil K5.out 1
        rw [two_nil1] at h
        obtain ⟨nb, hnb⟩ : ∃ nb, (x1 == 0) = nb := ⟨_, rfl⟩
        rw [hnb] at h
        have NB := Lib.hid hnb
        clear hnb
        refine h.mono ?_
        rintro e w6 ⟨rfl, rfl⟩
        clear h
        go_wp2_with fail
        have K5 := K5.out.keep (below_drew w5)
        have X5 := X5.out.drew
        have X5' := X5
        go_region_held3 (fun w' => w'.cell? ⟨w4.heap.size, 0, none⟩ = some (.int .i64 m1) ∧ w'.cell? ⟨w4.heap.size, 1, none⟩ = some (.int .i64 m2) ∧ w'.cell? ⟨w4.heap.size, 2, none⟩ = some (.int .i64 0) ∧ w'.cell? ⟨w4.heap.size, 3, none⟩ = some (.int .i64 0) ∧ w'.cell? ⟨w4.heap.size, 4, none⟩ = some (.int .i64 0) ∧ w'.cell? ⟨w4.heap.size, 5, none⟩ = some (.int .i64 m2) ∧ w'.cell? ⟨w4.heap.size, 6, none⟩ = some (.int .i64 0) ∧ w'.cell? ⟨w4.heap.size, 7, none⟩ = some (.int .i64 (cf.ps * cf.pz))) (exact ⟨X5.cell 0, X5.cell 1, X5.cell 2, X5.cell 3, X5.cell 4, X5.cell 5, X5.cell 6, X5.cell 7⟩) (first
          | (go_at_call 20; have h := kg_stats K5; simp only at h; rw [HM.out.1, HM.out.2] at h; refine h.mono ?_; rintro e v1 ⟨rfl, b2⟩; have K5 := K5.keep b2; have X5 := X5.keep b2; clear b2 h))
        all_goals
          rename_i v1 _ _
          have K6 := Lib.hid K5
          clear K5 X5
          go_wp2_with fail
          have h := kg_clear K6.out 1
          rw [two_clear1] at h
          refine h.mono ?_
          rintro e w7 ⟨rfl, k7, _⟩
          have K7 := Lib.hid k7
          clear h k7 K6
          go_wp2_with fail
          have h := kg_same K7.out 0 1
          rw [two_same, NB.out] at h
          refine h.mono ?_
          rintro e w8 ⟨rfl, rfl⟩
          clear h
          go_wp2
          go_ret
          exact ⟨by simp, K7.out.bel⟩
end Go.Proofs.YthmhehehomieiaaGreat

/- The walk of CoreFresh. -/
namespace Go.Proofs.YthmhehehomieiaaGreat
open Go.RowKit

/-- A graph whose newest node, with p references and q scalars, is held by handle 1. -/
def frG (ns : List Node2) (p q : Nat) (x0 : Int) (r : List Int) (lg : Int) : Gr := ⟨ns ++ [(List.replicate p 0, List.replicate q 0)], x0 :: (ns.length + 1 : Int) :: r, lg⟩

section
variable (ns : List Node2) (p q : Nat) (x0 x1 : Int) (r : List Int) (lg : Int)
theorem fr_new {nu : Int} (h : stE nu ⟨ns, x0 :: x1 :: r, lg⟩ 1 1 p q 0 = 0) : stG nu ⟨ns, x0 :: x1 :: r, lg⟩ 1 1 p q 0 = frG ns p q x0 r lg := by
  unfold stE at h
  unfold stG
  by_cases hf : full nu ⟨ns, x0 :: x1 :: r, lg⟩ 1 1 p q
  · rw [if_pos hf] at h; omega
  · rw [if_neg hf] at h ⊢
    unfold Gr.change at h ⊢
    simp only [two_has1] at h ⊢
    rw [if_pos trivial, if_pos trivial] at h ⊢
    split at h
    · simp at h
    · rename_i hs
      rw [if_neg hs]
      simp [frG]
theorem fr_has0 : (frG ns p q x0 r lg).has 0 = true := two_has0 _ _ _ _ _
theorem fr_wrong : (frG ns p q x0 r lg).wrong 1 = 0 := by
  unfold Gr.wrong
  rw [if_pos (show (frG ns p q x0 r lg).has 1 = true from two_has1 _ _ _ _ _)]
  exact if_neg (by show ¬ ((ns.length : Int) + 1 = 0); omega)
theorem fr_node : (frG ns p q x0 r lg).node ((frG ns p q x0 r lg).held 1) = (List.replicate p 0, List.replicate q 0) := by
  have e : (frG ns p q x0 r lg).held 1 = (ns.length + 1 : Int) := rfl
  rw [e]
  unfold Gr.node frG
  simp only
  rw [show ((ns.length : Int) + 1).toNat - 1 = ns.length by omega, List.getD_eq_getElem?_getD, List.getElem?_append_right (Nat.le_refl _), Nat.sub_self]
  rfl
theorem fr_shape : (frG ns p q x0 r lg).ask 10 1 0 = (0, false, (p : Int), (q : Int)) := by
  unfold Gr.ask
  rw [if_neg (by omega), if_pos rfl, if_pos (fr_wrong ..), fr_node]
  simp
theorem fr_get {i : Int} (h : 0 ≤ i ∧ i < p) : (frG ns p q x0 r lg).change 2 0 1 i 0 = (0, frG ns p q 0 r lg) := by
  unfold Gr.change
  rw [if_neg (by omega), if_pos rfl, if_pos (fr_wrong ..), if_pos (fr_has0 ..), fr_node, if_pos (by simp; omega)]
  have e : (List.replicate p (0 : Int)).getD i.toNat 0 = 0 := by
    rw [List.getD_eq_getElem?_getD, List.getElem?_replicate, if_pos (by omega)]; rfl
  simp only [e]
  rfl
theorem fr_nil : (frG ns p q 0 r lg).ask 9 0 0 = (0, true, 0, 0) := by
  have := two_nil0 (ns ++ [(List.replicate p 0, List.replicate q 0)]) 0 (ns.length + 1 : Int) r lg
  exact this
theorem fr_read {i : Int} (h : 0 ≤ i ∧ i < q) : (frG ns p q x0 r lg).ask 4 1 i = (0, false, 0, 0) := by
  unfold Gr.ask
  rw [if_pos rfl, if_pos (fr_wrong ..), fr_node, if_pos (by simp; omega)]
  have e : (List.replicate q (0 : Int)).getD i.toNat 0 = 0 := by
    rw [List.getD_eq_getElem?_getD, List.getElem?_replicate, if_pos (by omega)]; rfl
  simp only [e]
end

theorem fr_some {w0 w : World} {Z : Nat → Prop} {B : Nat} {cf : Cfg} {ns : List Node2} {p q : Nat} {x0 : Int} {r : List Int} {lg : Int} (k : Kg w0 w Z B cf (frG ns p q x0 r lg)) : Hid (∃ x0, Kg w0 w Z B cf (frG ns p q x0 r lg)) := Lib.hid ⟨_, k⟩

set_option maxHeartbeats 8000000 in
set_option maxRecDepth 100000 in
theorem coreFresh_walk (a b c d : Int) (ha : By a) (hb : By b) (hc : By c) (hd : By d) (A : Option Addr) (n cp : Nat) (r0 r1 : Int) (hr0 : By r0) (hr1 : By r1) (w : World) (rd : RdSt w A n) (_ : n ≤ cp) (_ : cp ≤ maxLen) :
    Calls Tryz.prog 7 #[.int .u8 a, .int .u8 b, .int .u8 c, .int .u8 d, .slice A n cp, .int .u8 r0, .int .u8 r1] w fun e w' => e = .returned (.bool true) ∧ Below w.heap.size w w' := by
  have HC := Lib.hid (config_any a b c d ha hb hc hd)
  have HM := Lib.hid (cfgOf_may a b c d ha hb hc hd)
  have HH := Lib.hid (show (Gr.none_ (cfgOf a b c d)).hs.length = (cfgOf a b c d).ha.toNat from zeros_length _)
  have H2 := Lib.hid (show 2 ≤ (cfgOf a b c d).ha.toNat from by show 2 ≤ (a % 5 + 2).toNat; have := ha.1; omega)
  have RD := Lib.hid rd
  clear ha hb hc hd rd
  generalize cfgOf a b c d = cf at *
  have LG := Lib.hid (And.intro HM.out.lg0 HM.out.lg1)
  obtain ⟨r00, r01⟩ := hr0
  obtain ⟨r10, r11⟩ := hr1
  have QQ := Lib.hid (And.intro r00 (And.intro r10 (And.intro r01 r11)))
  clear r00 r01 r10 r11
  go_enter Tryz.func7, Tryz.ntmps7
  go_wp2_with fail
  refine (HC.out _).mono ?_
  rintro e w1 ⟨rfl, b1⟩
  have B1 := Lib.hid b1
  clear b1 HC
  have X1 := Lib.hid (Blk.new w1 #[.int .i64 cf.ha, .int .i64 cf.nu, .int .i64 cf.ps, .int .i64 cf.pz, .int .i64 cf.cd, .int .i64 cf.bf, .int .i64 cf.st, .int .i64 cf.tn, .int .i64 cf.lg, .int .i64 cf.mi, .int .i64 cf.ma, .int .i64 cf.na, .int .i64 cf.ja] 23)
  go_wp2_with fail
  refine (kg_new (w0 := w) (Z := fun k => k = w1.heap.size) HM.out (B1.out.alloc B1.out.size _) (fun k e => ⟨by have := B1.out.size; omega, by subst e; simp⟩)).mono ?_
  rintro e w2 ⟨b, rfl, k2, p2⟩
  have K2 := Lib.hid k2
  have X2 := Lib.hid (X1.out.kp p2 rfl)
  clear k2 p2 HM X1 B1
  go_wp2_with fail
  refine (awake13_walk _).mono ?_
  rintro e w3 ⟨rfl, b3⟩
  have KL := Lib.hid (And.intro (show Kl w w3 (fun k => k = w1.heap.size) b cf cf.ha.toNat from ⟨_, K2.out.keep b3, HH.out⟩) (X2.out.keep b3))
  clear b3 K2 HH X2
  go_wp2_with fail

  go_loopw [18] (fun s wr => ∃ (i : Nat), i ≤ n ∧ i ≤ 60 ∧ s = .int .i64 i ∧ Hid (Kl w wr (fun k => k = w1.heap.size) b cf cf.ha.toNat ∧ Blk wr w1.heap.size #[.int .i64 cf.ha, .int .i64 cf.nu, .int .i64 cf.ps, .int .i64 cf.pz, .int .i64 cf.cd, .int .i64 cf.bf, .int .i64 cf.st, .int .i64 cf.tn, .int .i64 cf.lg, .int .i64 cf.mi, .int .i64 cf.ma, .int .i64 cf.na, .int .i64 cf.ja] 23)) (fun s _ => n - (intOf s).toNat)
  case atStart => exact ⟨0, Nat.zero_le _, Nat.zero_le _, rfl, KL⟩
  case round =>
    clear KL
    obtain ⟨i, hi, hi2, rfl, KL⟩ := hrel
    by_cases hlt : i < n ∧ i < 60
    · obtain ⟨h1, h2⟩ := hlt
      obtain ⟨ad, k, x, p, q, v, rfl, _, iq, hcell⟩ := RD.out i h1
      obtain ⟨⟨G, HG, hL⟩, XX⟩ := KL.out
      have XX := Lib.hid XX
      obtain ⟨c0, c1, c2, c3, c4⟩ := hcell _ HG.bel
      have HD := Lib.hid (kg_do HG k x p q v iq.2)
      have hL := Lib.hid ((doG_len cf.nu G k x p q v).trans hL)
      have h3 : (i : Int) < (n : Int) := by omega
      have h4 : (i : Int) < 60 := by omega
      have h5 : (0 : Int) ≤ (i : Int) := by omega
      clear KL HG hcell
      go_wp2_with fail
      refine HD.out.mono ?_
      rintro e w2 ⟨rfl, k2, p2⟩
      have KN := Lib.hid (And.intro (show Kl w w2 (fun k => k = w1.heap.size) b cf cf.ha.toNat from ⟨_, k2, hL.out⟩) (XX.out.kp p2 rfl))
      clear k2 p2 XX HD hL c0 c1 c2 c3 c4
      go_wp2
      go_roundw
      case rel => exact ⟨i + 1, by omega, by omega, by go_num, KN⟩
      case measure => simp [intOf]; omega
    · have hlt : ((i : Int) < (n : Int) ∧ ¬ ((i : Int) < 60)) ∨ ¬ ((i : Int) < (n : Int)) := by omega
      generalize wr = wo at *
      clear RD hi hi2
      obtain ⟨⟨G, HG, hL⟩, XX⟩ := KL.out
      obtain ⟨ns, x0, x1, r, lg, rfl⟩ := Gr.two (G := G) (by rw [hL]; exact H2.out)
      have K := Lib.hid HG
      have c8 := XX.cell 8
      simp only [List.getElem?_toArray, List.getElem?_cons_succ, List.getElem?_cons_zero] at c8
      have X0 := Lib.hid XX
      clear KL HG hL H2 XX
      obtain ⟨l0, l1⟩ := LG.out
      obtain ⟨q0, q1, q2, q3⟩ := QQ.out
      obtain ⟨L, hL⟩ : ∃ L, cf.lg = L := ⟨_, rfl⟩
      rw [hL] at c8 l0 l1
      have wl : IntKind.i64.wrap (L + 1) = L + 1 := IntWalk.i64_in _ (by omega)
      obtain ⟨p, hp⟩ : ∃ p : Nat, (p : Int) = r0 % (L + 1) := ⟨(r0 % (L + 1)).toNat, by have := Int.emod_nonneg r0 (show L + 1 ≠ 0 by omega); omega⟩
      have pl : (p : Int) ≤ L := by have := Int.emod_lt_of_pos r0 (show 0 < L + 1 by omega); omega
      have ep : r0 % (L + 1) = (p : Int) := hp.symm
      have ep2 : Int.tmod r0 (L + 1) = (p : Int) := by rw [Int.tmod_eq_emod_of_nonneg q0]; exact ep
      have wl2 : IntKind.i64.wrap (L + 1 - (p : Int)) = L + 1 - (p : Int) := IntWalk.i64_in _ (by omega)
      obtain ⟨q, hq⟩ : ∃ q : Nat, (q : Int) = r1 % (L + 1 - p) := ⟨(r1 % (L + 1 - p)).toNat, by have := Int.emod_nonneg r1 (show L + 1 - p ≠ 0 by omega); omega⟩
      have ql : (q : Int) ≤ L := by have := Int.emod_lt_of_pos r1 (show 0 < L + 1 - (p : Int) by omega); omega
      have eq1 : r1 % (L + 1 - p) = (q : Int) := hq.symm
      have eq2 : Int.tmod r1 (L + 1 - p) = (q : Int) := by rw [Int.tmod_eq_emod_of_nonneg q1]; exact eq1
      have nz1 : ¬ L + 1 = 0 := by omega
      have nz2 : ¬ L + 1 - (p : Int) = 0 := by omega
      have HMk := kg_make K.out 1 p q (by omega)
      have HMk := Lib.hid HMk
      clear hp hq hL
      rcases hlt with ⟨g1, g2⟩ | g1
      all_goals
        go_wp2_with fail
        refine HMk.out.mono ?_
        by_cases hE : stE cf.nu ⟨ns, x0 :: x1 :: r, lg⟩ 1 1 p q 0 = 0
        · rw [hE, fr_new ns p q x0 x1 r lg hE]
          rintro e w4 ⟨rfl, k4, _⟩
          have K4 := Lib.hid k4
          clear k4 hE HMk K c8 X0
          go_wp2_with fail
          have h := kg_shape K4.out 1
          rw [fr_shape] at h
          refine h.mono ?_
          rintro e w5 ⟨rfl, k5, _⟩
          have KL := fr_some k5
          clear k5 h K4
          go_wp2_with fail
          go_loopw [24] (fun s wr => ∃ (j : Nat), j ≤ p ∧ s = .int .i64 j ∧ Hid (∃ x0, Kg w wr (fun k => k = w1.heap.size) b cf (frG ns p q x0 r lg))) (fun s _ => p - (intOf s).toNat)
          case atStart => exact ⟨0, Nat.zero_le _, rfl, KL⟩
          case round =>
            clear KL
            obtain ⟨j, hj, rfl, KL⟩ := hrel
            by_cases hlt : j < p
            · have h3 : (j : Int) < (p : Int) := by omega
              have h4 : (0 : Int) ≤ (j : Int) := by omega
              obtain ⟨y0, k⟩ := KL.out
              have HG := kg_get k 0 1 j
              rw [fr_get _ _ _ _ _ _ (by omega)] at HG
              have HG := Lib.hid HG
              clear KL k
              go_wp2_with fail
              refine HG.out.mono ?_
              rintro e w6 ⟨rfl, k6, _⟩
              have HN := kg_nil k6 0
              rw [fr_nil] at HN
              have HN := Lib.hid HN
              have KN := fr_some k6
              clear k6 HG
              go_wp2_with fail
              refine HN.out.mono ?_
              rintro e w7 ⟨rfl, rfl⟩
              clear HN
              go_wp2
              go_roundw
              case rel => exact ⟨j + 1, by omega, by go_num, KN⟩
              case measure => simp [intOf]; omega
            · obtain rfl : p = j := by omega
              have hlt : ¬ ((p : Int) < (p : Int)) := by omega
              generalize wr = wz at *
              go_wp2_with fail
              go_loopw [27] (fun s wr => ∃ (j : Nat), j ≤ q ∧ s = .int .i64 j ∧ Hid (∃ x0, Kg w wr (fun k => k = w1.heap.size) b cf (frG ns p q x0 r lg))) (fun s _ => q - (intOf s).toNat)
              case atStart => exact ⟨0, Nat.zero_le _, rfl, KL⟩
              case round =>
                clear KL
                obtain ⟨j, hj, rfl, KL⟩ := hrel
                by_cases hlt : j < q
                · have h3 : (j : Int) < (q : Int) := by omega
                  have h4 : (0 : Int) ≤ (j : Int) := by omega
                  obtain ⟨y0, k⟩ := KL.out
                  have HG := kg_read k 1 j
                  rw [fr_read _ _ _ _ _ _ (by omega)] at HG
                  have HG := Lib.hid HG
                  clear KL k
                  go_wp2_with fail
                  refine HG.out.mono ?_
                  rintro e w6 ⟨rfl, k6, _⟩
                  have KN := fr_some k6
                  clear k6 HG
                  go_wp2
                  go_roundw
                  case rel => exact ⟨j + 1, by omega, by go_num, KN⟩
                  case measure => simp [intOf]; omega
                · have h3 : ¬ ((j : Int) < (q : Int)) := by omega
                  obtain ⟨y0, k⟩ := KL.out
                  have B9 := Lib.hid k.bel
                  clear KL k
                  go_wp2
                  go_ret
                  exact ⟨rfl, B9.out⟩
        · rintro e w4 ⟨rfl, k4, _⟩
          have B4 := Lib.hid k4.bel
          generalize stE cf.nu ⟨ns, x0 :: x1 :: r, lg⟩ 1 1 p q 0 = E at *
          clear k4 HMk K c8 X0
          go_wp2
          go_ret
          exact ⟨rfl, B4.out⟩
end Go.Proofs.YthmhehehomieiaaGreat

/- The Go function tilthlaw13.CoreFresh returns true for every input, and its arguments read afterwards as they read before: the given statement CoreFreshSaid, without further conditions. -/
namespace Go.Proofs.YthmhehehomieiaaGreat
open Go.ChangeShapes Go.WideShapes Go.ChangeAt Go.RowKit Go.Deep

set_option maxRecDepth 100000 in
theorem coreFresh_lifted (os : Os) (started : os.Started) (H : Type) (enc : TypeId × Value → H) :
    ReturnsInHanded {} Tryz.checked os 7 .any (Rows.coreFreshSpec.pre6 enc Tryz.prog Tryz.f7 Rows.coreFreshRow.domain false) (Rows.coreFreshSpec.post enc Tryz.prog Tryz.f7 false true false false) := by
  refine returnsInHanded_of_change (C := Tryz.checked) own started (by kernel_rfl) Tryz.func7
    (ChangeSpec.witness6 (enc := enc) (C := Tryz.checked) false ⟨#[], #[.int .u8 0, .int .u8 0, .int .u8 0, .int .u8 0, .slice none 0 0, .int .u8 0, .int .u8 0], []⟩ 8 (by kernel_rfl) (by kernel_rfl) (by kernel_rfl) (by kernel_rfl)) ?_
  intro W base args ds gs before hval0 hW _ _
  have hval : ∀ (j : Nat) t v, Tryz.f7.params[j]? = some t → args[j]? = some v → Value.okWide Tryz.prog W .any base t v := hval0
  have hW0 := hW
  obtain ⟨p, q, hA0, _, _, _, _⟩ := hW
  have hA : DataW.TrodAll enc Tryz.prog W 0 (fun _ => true) true Tryz.f7.params.toList args.toList ds p := hA0
  rw [Tryz.params7] at hA hval
  obtain ⟨v0, vs0, d0, ds0, pl0, ql0, hargs, rfl, rfl, h0, r0⟩ := trodAll_cons hA
  obtain ⟨v1, vs1, d1, ds1, pl1, ql1, rfl, rfl, rfl, h1, r1⟩ := trodAll_cons r0
  obtain ⟨v2, vs2, d2, ds2, pl2, ql2, rfl, rfl, rfl, h2, r2⟩ := trodAll_cons r1
  obtain ⟨v3, vs3, d3, ds3, pl3, ql3, rfl, rfl, rfl, h3, r3⟩ := trodAll_cons r2
  obtain ⟨v4, vs4, d4, ds4, pl4, ql4, rfl, rfl, rfl, h4, r4⟩ := trodAll_cons r3
  obtain ⟨v5, vs5, d5, ds5, pl5, ql5, rfl, rfl, rfl, h5, r5⟩ := trodAll_cons r4
  obtain ⟨v6, vs6, d6, ds6, pl6, ql6, rfl, rfl, rfl, h6, r6⟩ := trodAll_cons r5
  obtain ⟨rfl, rfl, rfl⟩ := trodAll_nil r6
  obtain rfl : args = #[v0, v1, v2, v3, v4, v5, v6] := by cases args; simp_all
  obtain ⟨x0, rfl, rfl, rfl, wf0⟩ := open_int Tryz.underlying5 (hval 0 5 v0 rfl rfl) h0
  have bd0 : 0 ≤ x0 ∧ x0 ≤ 255 := bounds_int wf0
  obtain ⟨x1, rfl, rfl, rfl, wf1⟩ := open_int Tryz.underlying5 (hval 1 5 v1 rfl rfl) h1
  have bd1 : 0 ≤ x1 ∧ x1 ≤ 255 := bounds_int wf1
  obtain ⟨x2, rfl, rfl, rfl, wf2⟩ := open_int Tryz.underlying5 (hval 2 5 v2 rfl rfl) h2
  have bd2 : 0 ≤ x2 ∧ x2 ≤ 255 := bounds_int wf2
  obtain ⟨x3, rfl, rfl, rfl, wf3⟩ := open_int Tryz.underlying5 (hval 3 5 v3 rfl rfl) h3
  have bd3 : 0 ≤ x3 ∧ x3 ≤ 255 := bounds_int wf3
  obtain ⟨A4, N4, c4, rfl, nc4, cm4, rd4⟩ := open_steps (hval 4 47 v4 rfl rfl) h4
  obtain ⟨x5, rfl, rfl, rfl, wf5⟩ := open_int Tryz.underlying5 (hval 5 5 v5 rfl rfl) h5
  have bd5 : 0 ≤ x5 ∧ x5 ≤ 255 := bounds_int wf5
  obtain ⟨x6, rfl, rfl, rfl, wf6⟩ := open_int Tryz.underlying5 (hval 6 5 v6 rfl rfl) h6
  have bd6 : 0 ≤ x6 ∧ x6 ≤ 255 := bounds_int wf6
  exact (coreFresh_walk x0 x1 x2 x3 bd0 bd1 bd2 bd3 A4 N4 c4 x5 x6 bd5 bd6 W rd4 nc4 cm4).mono fun e W' ⟨he, bel⟩ => ⟨_, he, law_post laidOut (by kernel_rfl) (by kernel_rfl) Tryz.underlying4 rfl
    (fun ds hds => by rw [Tryz.params7] at hds; match ds, hds with | [_, _, _, _, _, _, _], _ => rfl) hW0 bel⟩

theorem coreFresh_holds : Rows.CoreFreshSaid :=
  OpenClaim.holds_of_wide 7 Tryz.f7 rfl rfl rfl rfl rfl rfl rfl ⟨rfl, rfl, rfl, rfl, rfl⟩ rfl rfl rfl rfl rfl (by kernel_rfl) Tryz.func7 (by kernel_rfl)
    (of_decide_eq_true (by kernel_rfl)) (by unfold Func.isWrapper; first | (rw [if_pos (by decide +kernel)]; kernel_rfl) | (rw [if_neg (by decide +kernel)]; exact ⟨rfl, rfl⟩))
    (fun os started H enc _ => coreFresh_lifted os started H enc)
#print axioms coreFresh_holds
end Go.Proofs.YthmhehehomieiaaGreat

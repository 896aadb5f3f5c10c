/- The Go function tilthlaw13.CoreFields returns true for every input, and its arguments read afterwards as they read before: the given statement CoreFieldsSaid, without further conditions. -/
import Derived.Test.YthmhehehomieiaaGreatJoinG
import Derived.Deep.RegionHeld3

/- What the walks over scripts share; the walk of CoreCopies. -/
namespace Go.Proofs.YthmhehehomieiaaGreat
open Go.RowKit

theorem change_len (G : Gr) (k a b c v : Int) : (G.change k a b c v).2.hs.length = G.hs.length := by
  unfold Gr.change Gr.hold Gr.setNode
  repeat' split
  all_goals simp
theorem doG_len (nu : Int) (G : Gr) (k a p q v : Int) : (doG nu G k a p q v).hs.length = G.hs.length := by
  unfold doG stG
  split
  · split
    · rfl
    · exact change_len _ _ _ _ _ _
  · rfl

/-- Two handles are there. -/
theorem Gr.two {G : Gr} (h : 2 ≤ G.hs.length) : ∃ ns x0 x1 r lg, G = ⟨ns, x0 :: x1 :: r, lg⟩ := by
  obtain ⟨ns, hs, lg⟩ := G
  match hs, h with
  | x0 :: x1 :: r, _ => exact ⟨ns, x0, x1, r, lg, rfl⟩

section
variable (ns : List Node2) (x0 x1 : Int) (r : List Int) (lg : Int)
theorem two_has0 : (Gr.mk ns (x0 :: x1 :: r) lg).has 0 = true := by simp [Gr.has]; omega
theorem two_has1 : (Gr.mk ns (x0 :: x1 :: r) lg).has 1 = true := by simp [Gr.has]; omega
theorem two_held0 : (Gr.mk ns (x0 :: x1 :: r) lg).held 0 = x0 := rfl
theorem two_held1 : (Gr.mk ns (x0 :: x1 :: r) lg).held 1 = x1 := rfl
theorem two_copy : (Gr.mk ns (x0 :: x1 :: r) lg).change 7 0 1 0 0 = (0, ⟨ns, x1 :: x1 :: r, lg⟩) := by
  unfold Gr.change
  simp only [two_has0, two_has1]
  rfl
theorem two_clear1 : (Gr.mk ns (x0 :: x1 :: r) lg).change 6 1 0 0 0 = (0, ⟨ns, x0 :: 0 :: r, lg⟩) := by
  unfold Gr.change
  simp only [two_has1]
  rfl
theorem two_same : (Gr.mk ns (x0 :: x1 :: r) lg).ask 8 0 1 = (0, x0 == x1, 0, 0) := by
  unfold Gr.ask
  simp only [two_has0, two_has1]
  rfl
theorem two_nil0 : (Gr.mk ns (x0 :: x1 :: r) lg).ask 9 0 0 = (0, x0 == 0, 0, 0) := by
  unfold Gr.ask
  simp only [two_has0]
  rfl
theorem two_nil1 : (Gr.mk ns (x0 :: x1 :: r) lg).ask 9 1 0 = (0, x1 == 0, 0, 0) := by
  unfold Gr.ask
  simp only [two_has1]
  rfl
end

/-- The core holds a graph with so many handles. -/
def Kl (w0 w : World) (Z : Nat → Prop) (b : Nat) (c : Cfg) (n : Nat) : Prop := ∃ G, Kg w0 w Z b c G ∧ G.hs.length = n

set_option maxHeartbeats 8000000 in
set_option maxRecDepth 100000 in
theorem coreCopies_walk (a b c d : Int) (ha : By a) (hb : By b) (hc : By c) (hd : By d) (A : Option Addr) (n cp : Nat) (w : World) (rd : RdSt w A n) (_ : n ≤ cp) (_ : cp ≤ maxLen) :
    Calls Tryz.prog 10 #[.int .u8 a, .int .u8 b, .int .u8 c, .int .u8 d, .slice A n cp] w fun e w' => e = .returned (.bool true) ∧ Below w.heap.size w w' := by
  have HC := Lib.hid (config_any a b c d ha hb hc hd)
  have HM := Lib.hid (cfgOf_may a b c d ha hb hc hd)
  have HH := Lib.hid (show (Gr.none_ (cfgOf a b c d)).hs.length = (cfgOf a b c d).ha.toNat from zeros_length _)
  have H2 := Lib.hid (show 2 ≤ (cfgOf a b c d).ha.toNat from by show 2 ≤ (a % 5 + 2).toNat; have := ha.1; omega)
  have RD := Lib.hid rd
  clear ha hb hc hd rd
  generalize cfgOf a b c d = cf at *
  go_enter Tryz.func10, Tryz.ntmps10
  go_wp2_with fail
  refine (HC.out _).mono ?_
  rintro e w1 ⟨rfl, b1⟩
  have HN := Lib.hid (kg_new (w0 := w) (Z := noZ) HM.out b1 (fun _ e => e.elim))
  clear b1 HC
  go_wp2_with fail
  refine HN.out.mono ?_
  rintro e w2 ⟨b, rfl, k2, _⟩
  have K2 := Lib.hid k2
  clear k2 HN HM
  go_wp2_with fail
  refine (awake13_walk _).mono ?_
  rintro e w3 ⟨rfl, b3⟩
  have KL := Lib.hid (show Kl w w3 noZ b cf cf.ha.toNat from ⟨_, K2.out.keep b3, HH.out⟩)
  clear b3 K2 HH
  go_wp2_with fail
  go_loopw [13] (fun s wr => ∃ (i : Nat), i ≤ n ∧ i ≤ 60 ∧ s = .int .i64 i ∧ Hid (Kl w wr noZ b cf cf.ha.toNat)) (fun s _ => n - (intOf s).toNat)
  case atStart => exact ⟨0, Nat.zero_le _, Nat.zero_le _, rfl, KL⟩
  case round =>
    clear KL
    obtain ⟨i, hi, hi2, rfl, KL⟩ := hrel
    by_cases hlt : i < n ∧ i < 60
    · obtain ⟨h1, h2⟩ := hlt
      obtain ⟨ad, k, x, p, q, v, rfl, _, iq, hcell⟩ := RD.out i h1
      obtain ⟨G, HG, hL⟩ := KL.out
      obtain ⟨c0, c1, c2, c3, c4⟩ := hcell _ HG.bel
      have HD := Lib.hid (kg_do HG k x p q v iq.2)
      have hL := Lib.hid ((doG_len cf.nu G k x p q v).trans hL)
      have h3 : (i : Int) < (n : Int) := by omega
      have h4 : (i : Int) < 60 := by omega
      have h5 : (0 : Int) ≤ (i : Int) := by omega
      clear KL HG hcell
      go_wp2_with fail
      refine HD.out.mono ?_
      rintro e w2 ⟨rfl, k2, _⟩
      have KN := Lib.hid (show Kl w w2 noZ b cf cf.ha.toNat from ⟨_, k2, hL.out⟩)
      clear k2 HD hL c0 c1 c2 c3 c4
      go_wp2
      go_roundw
      case rel => exact ⟨i + 1, by omega, by omega, by go_num, KN⟩
      case measure => simp [intOf]; omega
    · have hlt : ((i : Int) < (n : Int) ∧ ¬ ((i : Int) < 60)) ∨ ¬ ((i : Int) < (n : Int)) := by omega
      generalize wr = wo at *
      clear RD hi hi2
      obtain ⟨G, HG, hL⟩ := KL.out
      obtain ⟨ns, x0, x1, r, lg, rfl⟩ := Gr.two (G := G) (by rw [hL]; exact H2.out)
      have K := Lib.hid HG
      have HS := Lib.hid (kg_stats HG)
      clear KL HG hL H2
      simp only at HS
      obtain ⟨m1, hm1⟩ : ∃ m1 : Int, (ns.length : Int) = m1 := ⟨_, rfl⟩
      obtain ⟨m2, hm2⟩ : ∃ m2 : Int, (tot ns : Int) = m2 := ⟨_, rfl⟩
      rw [hm1, hm2] at HS
      have HM := Lib.hid (And.intro hm1 hm2)
      clear hm1 hm2
      rcases hlt with ⟨g1, g2⟩ | g1
      all_goals
        go_wp2_with fail
        refine HS.out.mono ?_
        rintro e w4 ⟨rfl, b4⟩
        have K4 := Lib.hid ((K.out.keep b4).grow (Z' := fun k => k = w4.heap.size) ((Below.refl _ w4).alloc (Nat.le_refl _) (stO8 m1 m2 0 0 0 m2 0 (cf.ps * cf.pz))) (fun k e => .inr ⟨by omega, by subst e; simp⟩))
        have X4 := Lib.hid (Blk.new w4 (stL8 m1 m2 0 0 0 m2 0 (cf.ps * cf.pz)) 31)
        clear b4 HS K
        go_wp2_with fail
        have h := kg_copy K4.out 0 1
        rw [two_copy] at h
        refine h.mono ?_
        rintro e w5 ⟨rfl, k5, p5⟩
        have K5 := Lib.hid k5
        have X5 := Lib.hid (X4.out.kp p5 rfl)
        clear h k5 p5 K4 X4
        go_wp2_with fail
        have h := kg_same K5.out 0 1
        rw [two_same, beq_self_eq_true] at h
        refine h.mono ?_
        rintro e w6 ⟨rfl, rfl⟩
        clear h
        go_wp2_with fail
        have h := kg_nil K5.out 1
        rw [two_nil1] at h
        obtain ⟨nb, hnb⟩ : ∃ nb, (x1 == 0) = nb := ⟨_, rfl⟩
        rw [hnb] at h
        have NB := Lib.hid hnb
        clear hnb
        refine h.mono ?_
        rintro e w6 ⟨rfl, rfl⟩
        clear h
        go_wp2_with fail
        have K5 := K5.out.keep (below_drew w5)
        have X5 := X5.out.drew
        have X5' := X5
        go_region_held3 (fun w' => w'.cell? ⟨w4.heap.size, 0, none⟩ = some (.int .i64 m1) ∧ w'.cell? ⟨w4.heap.size, 1, none⟩ = some (.int .i64 m2) ∧ w'.cell? ⟨w4.heap.size, 2, none⟩ = some (.int .i64 0) ∧ w'.cell? ⟨w4.heap.size, 3, none⟩ = some (.int .i64 0) ∧ w'.cell? ⟨w4.heap.size, 4, none⟩ = some (.int .i64 0) ∧ w'.cell? ⟨w4.heap.size, 5, none⟩ = some (.int .i64 m2) ∧ w'.cell? ⟨w4.heap.size, 6, none⟩ = some (.int .i64 0) ∧ w'.cell? ⟨w4.heap.size, 7, none⟩ = some (.int .i64 (cf.ps * cf.pz))) (exact ⟨X5.cell 0, X5.cell 1, X5.cell 2, X5.cell 3, X5.cell 4, X5.cell 5, X5.cell 6, X5.cell 7⟩) (first
          | (go_at_call 20; have h := kg_stats K5; simp only at h; rw [HM.out.1, HM.out.2] at h; refine h.mono ?_; rintro e v1 ⟨rfl, b2⟩; have K5 := K5.keep b2; have X5 := X5.keep b2; clear b2 h))
        all_goals
          rename_i v1 _ _
          have K6 := Lib.hid K5
          clear K5 X5
          go_wp2_with fail
          have h := kg_clear K6.out 1
          rw [two_clear1] at h
          refine h.mono ?_
          rintro e w7 ⟨rfl, k7, _⟩
          have K7 := Lib.hid k7
          clear h k7 K6
          go_wp2_with fail
          have h := kg_same K7.out 0 1
          rw [two_same, NB.out] at h
          refine h.mono ?_
          rintro e w8 ⟨rfl, rfl⟩
          clear h
          go_wp2
          go_ret
          exact ⟨by simp, K7.out.bel⟩
end Go.Proofs.YthmhehehomieiaaGreat

/- The walk of CoreFields. -/
namespace Go.Proofs.YthmhehehomieiaaGreat
open Go.RowKit

/-- The configuration of CoreFields. -/
def cfgF (a b c d : Int) : Cfg := { cfgOf a b c d with lg := 8, nu := 60 }
theorem cfgF_may (a b c d : Int) (ha : By a) (hb : By b) (hc : By c) (hd : By d) : (cfgF a b c d).May := by
  have m := cfgOf_may a b c d ha hb hc hd
  have e : (cfgOf a b c d).na = 12 + a % 8 := rfl
  exact { m with nu0 := (by show (8 : Int) ≤ 60; omega), nu1 := (by show (60 : Int) ≤ 4096; omega), lg0 := (by show (0 : Int) ≤ 8; omega), lg1 := (by show (8 : Int) ≤ 64; omega), lg2 := (by show (8 : Int) ≤ 60 - 2; omega),
                 na1 := (by show (cfgOf a b c d).na ≤ 60; rw [e]; omega) }

/-- Four references, four scalars, and something empty beside them. -/
def fldG (ps ss : List Int) (x1 : Int) (r : List Int) (lg : Int) : Gr := ⟨[(ps, ss), ([], [])], 1 :: x1 :: r, lg⟩

theorem fld_new (x0 x1 : Int) (r : List Int) : stE 60 ⟨[], x0 :: x1 :: r, 8⟩ 1 0 4 4 0 = 0 ∧ stG 60 ⟨[], x0 :: x1 :: r, 8⟩ 1 0 4 4 0 = ⟨[([0, 0, 0, 0], [0, 0, 0, 0])], 1 :: x1 :: r, 8⟩ := by
  have hf : ¬ full 60 ⟨[], x0 :: x1 :: r, 8⟩ 1 0 4 4 := fun h => by have := h.2.2.2.2.2; simp [tot] at this
  unfold stE stG
  rw [if_neg hf, if_neg hf]
  unfold Gr.change
  simp only [two_has0]
  exact ⟨rfl, rfl⟩
theorem fld_new2 (x1 : Int) (r : List Int) : stE 60 ⟨[([0, 0, 0, 0], [0, 0, 0, 0])], 1 :: x1 :: r, 8⟩ 1 1 0 0 0 = 0 ∧ stG 60 ⟨[([0, 0, 0, 0], [0, 0, 0, 0])], 1 :: x1 :: r, 8⟩ 1 1 0 0 0 = fldG [0, 0, 0, 0] [0, 0, 0, 0] 2 r 8 := by
  have hf : ¬ full 60 ⟨[([0, 0, 0, 0], [0, 0, 0, 0])], 1 :: x1 :: r, 8⟩ 1 1 0 0 := fun h => by have := h.2.2.2.2.2; simp [tot, sz] at this
  unfold stE stG
  rw [if_neg hf, if_neg hf]
  unfold Gr.change
  simp only [two_has1]
  exact ⟨rfl, rfl⟩

section
variable (ps ss : List Int) (x1 : Int) (r : List Int) (lg : Int)
theorem fld_wrong : (fldG ps ss x1 r lg).wrong 0 = 0 := by
  unfold Gr.wrong fldG
  simp only [two_has0]
  rfl
theorem fld_has0 : (fldG ps ss x1 r lg).has 0 = true := two_has0 _ _ _ _ _
theorem fld_has1 : (fldG ps ss x1 r lg).has 1 = true := two_has1 _ _ _ _ _
theorem fld_node : (fldG ps ss x1 r lg).node ((fldG ps ss x1 r lg).held 0) = (ps, ss) := rfl
theorem fld_write {i w : Int} (h : 0 ≤ i ∧ i < ss.length) : (fldG ps ss x1 r lg).change 5 0 i 0 w = (0, fldG ps (ss.set i.toNat w) x1 r lg) := by
  unfold Gr.change
  rw [if_neg (by omega), if_neg (by omega), if_neg (by omega), if_pos rfl, if_pos (fld_wrong ..), fld_node, if_pos h]
  rfl
theorem fld_set {k : Int} (h : 0 ≤ k ∧ k < ps.length) : (fldG ps ss x1 r lg).change 3 0 k 1 0 = (0, fldG (ps.set k.toNat x1) ss x1 r lg) := by
  unfold Gr.change
  rw [if_neg (by omega), if_neg (by omega), if_pos rfl, if_pos (fld_wrong ..), if_pos (fld_has1 ..), fld_node, if_pos h]
  rfl
theorem fld_read {j : Int} (h : 0 ≤ j ∧ j < ss.length) : (fldG ps ss x1 r lg).ask 4 0 j = (0, false, 0, ss.getD j.toNat 0) := by
  unfold Gr.ask
  rw [if_pos rfl, if_pos (fld_wrong ..), fld_node, if_pos h]
theorem fld_get {j : Int} (h : 0 ≤ j ∧ j < ps.length) : (fldG ps ss x1 r lg).change 2 1 0 j 0 = (0, fldG ps ss (ps.getD j.toNat 0) r lg) := by
  unfold Gr.change
  rw [if_neg (by omega), if_pos rfl, if_pos (fld_wrong ..), if_pos (fld_has1 ..), fld_node, if_pos h]
  rfl
theorem fld_nil : (fldG ps ss x1 r lg).ask 9 1 0 = (0, x1 == 0, 0, 0) := two_nil1 _ _ _ _ _
end

theorem kf_some {w0 w : World} {Z : Nat → Prop} {B : Nat} {cf : Cfg} {ps ss r : List Int} {x1 lg : Int} (k : Kg w0 w Z B cf (fldG ps ss x1 r lg)) : Hid (∃ x1, Kg w0 w Z B cf (fldG ps ss x1 r lg)) := Lib.hid ⟨_, k⟩

theorem four_at (i : Int) (j : Nat) (w : Int) (h0 : 0 ≤ i) (h1 : i < 4) (hj : j < 4) : (([0, 0, 0, 0] : List Int).set i.toNat w).getD (j : Int).toNat 0 = if (j : Int) = i then w else 0 := by
  rw [Int.toNat_natCast]
  rw [List.getD_eq_getElem?_getD, List.getElem?_set]
  by_cases e : (j : Int) = i
  · rw [if_pos e, if_pos (by omega), if_pos (by simp; omega)]; rfl
  · rw [if_neg e, if_neg (by omega)]
    have : j = 0 ∨ j = 1 ∨ j = 2 ∨ j = 3 := by omega
    rcases this with rfl | rfl | rfl | rfl <;> rfl

set_option maxHeartbeats 8000000 in
set_option maxRecDepth 100000 in
theorem coreFields_walk (a b c d n m v : Int) (ha : By a) (hb : By b) (hc : By c) (hd : By d) (hn : By n) (hm : By m) (w : World) :
    Calls Tryz.prog 9 #[.int .u8 a, .int .u8 b, .int .u8 c, .int .u8 d, .int .u8 n, .int .u8 m, .int .u64 v] w fun e w' => e = .returned (.bool true) ∧ Below w.heap.size w w' := by
  have HC := Lib.hid (config_any a b c d ha hb hc hd)
  have HM := Lib.hid (cfgF_may a b c d ha hb hc hd)
  have H2 := Lib.hid (show 2 ≤ (zeros (cfgF a b c d).ha).length from by rw [zeros_length]; show 2 ≤ (a % 5 + 2).toNat; have := ha.1; omega)
  obtain ⟨n0, n1⟩ := hn
  obtain ⟨m0, m1⟩ := hm
  have hi : 0 ≤ n % 4 ∧ n % 4 < 4 := by omega
  have hk : 0 ≤ m % 4 ∧ m % 4 < 4 := by omega
  obtain ⟨I, hI⟩ : ∃ I, n % 4 = I := ⟨_, rfl⟩
  obtain ⟨J, hJ⟩ : ∃ J, m % 4 = J := ⟨_, rfl⟩
  have hI2 : Int.tmod n 4 = I := by rw [Int.tmod_eq_emod_of_nonneg n0]; exact hI
  have hJ2 : Int.tmod m 4 = J := by rw [Int.tmod_eq_emod_of_nonneg m0]; exact hJ
  rw [hI] at hi
  rw [hJ] at hk
  obtain ⟨i0, i1⟩ := hi
  obtain ⟨k0, k1⟩ := hk
  clear ha hb hc hd n1 m1
  go_enter Tryz.func9, Tryz.ntmps9
  go_wp2_with fail
  refine (HC.out _).mono ?_
  rintro e w1 ⟨rfl, b1⟩
  have B1 := Lib.hid b1
  clear b1
  go_wp2_with fail
  refine (kg_new (w0 := w) (Z := noZ) HM.out (B1.out.alloc B1.out.size _) (fun _ e => e.elim)).mono ?_
  rintro e w2 ⟨B, rfl, k2, _⟩
  have hnu : (cfgF a b c d).nu = 60 := rfl
  obtain ⟨y0, y1, r, hz⟩ : ∃ y0 y1 r, zeros (cfgF a b c d).ha = y0 :: y1 :: r := by
    have := H2.out
    match zeros (cfgF a b c d).ha, this with
    | y0 :: y1 :: r, _ => exact ⟨y0, y1, r, rfl⟩
  have k2 := show Kg w w2 noZ B (cfgF a b c d) ⟨[], zeros (cfgF a b c d).ha, 8⟩ from k2
  rw [hz] at k2
  have K2 := Lib.hid k2
  have NU := Lib.hid hnu
  clear k2 HM HC B1 H2 hz hnu
  generalize cfgF a b c d = cf at K2 NU
  go_wp2_with fail
  refine (awake13_walk _).mono ?_
  rintro e w3 ⟨rfl, b3⟩
  have K3 := Lib.hid (K2.out.keep b3)
  clear b3 K2
  go_wp2_with fail
  have h := kg_make K3.out 0 4 4 (by omega)
  rw [NU.out, (fld_new y0 y1 r).1, (fld_new y0 y1 r).2] at h
  refine h.mono ?_
  rintro e w4 ⟨rfl, k4, _⟩
  have K4 := Lib.hid k4
  clear h k4 K3
  go_wp2_with fail
  have h := kg_make K4.out 1 0 0 (by omega)
  rw [NU.out, (fld_new2 y1 r).1, (fld_new2 y1 r).2] at h
  refine h.mono ?_
  rintro e w5 ⟨rfl, k5, _⟩
  have K5 := Lib.hid k5
  clear h k5 K4
  go_wp2_with fail
  have h := kg_write K5.out 0 I v
  rw [fld_write _ _ _ _ _ (by simp; omega)] at h
  refine h.mono ?_
  rintro e w6 ⟨rfl, k6, _⟩
  have K6 := Lib.hid k6
  clear h k6 K5
  go_wp2_with fail
  have h := kg_set K6.out 0 J 1
  rw [fld_set _ _ _ _ _ (by simp; omega)] at h
  refine h.mono ?_
  rintro e w7 ⟨rfl, k7, _⟩
  have KL := Lib.hid (show ∃ x1, Kg w w7 noZ B cf (fldG (([0, 0, 0, 0] : List Int).set J.toNat 2) (([0, 0, 0, 0] : List Int).set I.toNat v) x1 r 8) from ⟨_, k7⟩)
  clear h k7 K6
  go_wp2_with fail
  go_loopw [20] (fun s wr => ∃ (j : Nat), j ≤ 4 ∧ s = .int .i64 j ∧ Hid (∃ x1, Kg w wr noZ B cf (fldG (([0, 0, 0, 0] : List Int).set J.toNat 2) (([0, 0, 0, 0] : List Int).set I.toNat v) x1 r 8))) (fun s _ => 4 - (intOf s).toNat)
  case atStart => exact ⟨0, Nat.zero_le _, rfl, KL⟩
  case round =>
    clear KL
    obtain ⟨j, hj, rfl, KL⟩ := hrel
    by_cases hlt : j < 4
    · have h3 : (j : Int) < 4 := by omega
      have h4 : (0 : Int) ≤ (j : Int) := by omega
      obtain ⟨x1, k⟩ := KL.out
      have HR := kg_read k 0 j
      rw [fld_read _ _ _ _ _ (by simp; omega)] at HR
      rw [four_at I j v i0 i1 hlt] at HR
      have F4 := Lib.hid (fun (K : Int) (k0 : 0 ≤ K) (k1 : K < 4) => four_at K j 2 k0 k1 hlt)
      have B0 := Lib.hid (And.intro k0 k1)
      clear KL k i0 i1 k0 k1 hI hJ hI2 hJ2 n0 m0 hlt
      by_cases e1 : (j : Int) = I
      all_goals
        by_cases e2 : (j : Int) = J
      all_goals
        first | rw [if_pos e1] at HR | rw [if_neg e1] at HR
        have HR := Lib.hid HR
        have E2 := Lib.hid e2
        try subst e1
        try subst e2
        go_wp2_with fail
        refine HR.out.mono ?_
        rintro e w8 ⟨rfl, k8, _⟩
        have HG := kg_get k8 1 0 j
        rw [fld_get _ _ _ _ _ (by simp; omega)] at HG
        rw [F4.out _ B0.out.1 B0.out.2] at HG
        first | rw [if_pos rfl] at HG | rw [if_neg E2.out] at HG
        have HG := Lib.hid HG
        clear k8 HR
        go_wp2_with fail
        refine HG.out.mono ?_
        rintro e w9 ⟨rfl, k9, _⟩
        have HN := kg_nil k9 1
        rw [fld_nil] at HN
        have HN := Lib.hid HN
        have KN := kf_some k9
        clear k9 HG
        go_wp2_with fail
        refine HN.out.mono ?_
        rintro e w10 ⟨rfl, rfl⟩
        clear HN
        go_wp2
        go_roundw
        case rel => exact ⟨j + 1, by omega, by go_num, KN⟩
        case measure => simp [intOf]; omega
    · obtain rfl : j = 4 := by omega
      obtain ⟨x1, k⟩ := KL.out
      have B9 := Lib.hid k.bel
      clear KL k
      go_wp2
      go_ret
      exact ⟨rfl, B9.out⟩
end Go.Proofs.YthmhehehomieiaaGreat

/- The Go function tilthlaw13.CoreFields returns true for every input, and its arguments read afterwards as they read before: the given statement CoreFieldsSaid, without further conditions. -/
namespace Go.Proofs.YthmhehehomieiaaGreat
open Go.ChangeShapes Go.WideShapes Go.ChangeAt Go.RowKit Go.Deep

set_option maxRecDepth 100000 in
theorem coreFields_lifted (os : Os) (started : os.Started) (H : Type) (enc : TypeId × Value → H) :
    ReturnsInHanded {} Tryz.checked os 9 .any (Rows.coreFieldsSpec.pre6 enc Tryz.prog Tryz.f9 Rows.coreFieldsRow.domain false) (Rows.coreFieldsSpec.post enc Tryz.prog Tryz.f9 false true false false) := by
  refine returnsInHanded_of_change (C := Tryz.checked) own started (by kernel_rfl) Tryz.func9
    (ChangeSpec.witness6 (enc := enc) (C := Tryz.checked) false ⟨#[], #[.int .u8 0, .int .u8 0, .int .u8 0, .int .u8 0, .int .u8 0, .int .u8 0, .int .u64 0], []⟩ 8 (by kernel_rfl) (by kernel_rfl) (by kernel_rfl) (by kernel_rfl)) ?_
  intro W base args ds gs before hval0 hW _ _
  have hval : ∀ (j : Nat) t v, Tryz.f9.params[j]? = some t → args[j]? = some v → Value.okWide Tryz.prog W .any base t v := hval0
  have hW0 := hW
  obtain ⟨p, q, hA0, _, _, _, _⟩ := hW
  have hA : DataW.TrodAll enc Tryz.prog W 0 (fun _ => true) true Tryz.f9.params.toList args.toList ds p := hA0
  rw [Tryz.params9] at hA hval
  obtain ⟨v0, vs0, d0, ds0, pl0, ql0, hargs, rfl, rfl, h0, r0⟩ := trodAll_cons hA
  obtain ⟨v1, vs1, d1, ds1, pl1, ql1, rfl, rfl, rfl, h1, r1⟩ := trodAll_cons r0
  obtain ⟨v2, vs2, d2, ds2, pl2, ql2, rfl, rfl, rfl, h2, r2⟩ := trodAll_cons r1
  obtain ⟨v3, vs3, d3, ds3, pl3, ql3, rfl, rfl, rfl, h3, r3⟩ := trodAll_cons r2
  obtain ⟨v4, vs4, d4, ds4, pl4, ql4, rfl, rfl, rfl, h4, r4⟩ := trodAll_cons r3
  obtain ⟨v5, vs5, d5, ds5, pl5, ql5, rfl, rfl, rfl, h5, r5⟩ := trodAll_cons r4
  obtain ⟨v6, vs6, d6, ds6, pl6, ql6, rfl, rfl, rfl, h6, r6⟩ := trodAll_cons r5
  obtain ⟨rfl, rfl, rfl⟩ := trodAll_nil r6
  obtain rfl : args = #[v0, v1, v2, v3, v4, v5, v6] := by cases args; simp_all
  obtain ⟨x0, rfl, rfl, rfl, wf0⟩ := open_int Tryz.underlying5 (hval 0 5 v0 rfl rfl) h0
  have bd0 : 0 ≤ x0 ∧ x0 ≤ 255 := bounds_int wf0
  obtain ⟨x1, rfl, rfl, rfl, wf1⟩ := open_int Tryz.underlying5 (hval 1 5 v1 rfl rfl) h1
  have bd1 : 0 ≤ x1 ∧ x1 ≤ 255 := bounds_int wf1
  obtain ⟨x2, rfl, rfl, rfl, wf2⟩ := open_int Tryz.underlying5 (hval 2 5 v2 rfl rfl) h2
  have bd2 : 0 ≤ x2 ∧ x2 ≤ 255 := bounds_int wf2
  obtain ⟨x3, rfl, rfl, rfl, wf3⟩ := open_int Tryz.underlying5 (hval 3 5 v3 rfl rfl) h3
  have bd3 : 0 ≤ x3 ∧ x3 ≤ 255 := bounds_int wf3
  obtain ⟨x4, rfl, rfl, rfl, wf4⟩ := open_int Tryz.underlying5 (hval 4 5 v4 rfl rfl) h4
  have bd4 : 0 ≤ x4 ∧ x4 ≤ 255 := bounds_int wf4
  obtain ⟨x5, rfl, rfl, rfl, wf5⟩ := open_int Tryz.underlying5 (hval 5 5 v5 rfl rfl) h5
  have bd5 : 0 ≤ x5 ∧ x5 ≤ 255 := bounds_int wf5
  obtain ⟨x6, rfl, rfl, rfl, wf6⟩ := open_int Tryz.underlying51 (hval 6 51 v6 rfl rfl) h6
  have bd6 : 0 ≤ x6 ∧ x6 ≤ 18446744073709551615 := bounds_int wf6
  exact (coreFields_walk x0 x1 x2 x3 x4 x5 x6 bd0 bd1 bd2 bd3 bd4 bd5 W).mono fun e W' ⟨he, bel⟩ => ⟨_, he, law_post laidOut (by kernel_rfl) (by kernel_rfl) Tryz.underlying4 rfl
    (fun ds hds => by rw [Tryz.params9] at hds; match ds, hds with | [_, _, _, _, _, _, _], _ => rfl) hW0 bel⟩

theorem coreFields_holds : Rows.CoreFieldsSaid :=
  OpenClaim.holds_of_wide 9 Tryz.f9 rfl rfl rfl rfl rfl rfl rfl ⟨rfl, rfl, rfl, rfl, rfl⟩ rfl rfl rfl rfl rfl (by kernel_rfl) Tryz.func9 (by kernel_rfl)
    (of_decide_eq_true (by kernel_rfl)) (by unfold Func.isWrapper; first | (rw [if_pos (by decide +kernel)]; kernel_rfl) | (rw [if_neg (by decide +kernel)]; exact ⟨rfl, rfl⟩))
    (fun os started H enc _ => coreFields_lifted os started H enc)
#print axioms coreFields_holds
end Go.Proofs.YthmhehehomieiaaGreat

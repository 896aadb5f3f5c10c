/- The Go function tilthlaw13.CoreErrors returns true for every input, and its arguments read afterwards as they read before: the given statement CoreErrorsSaid, without further conditions. -/
import Derived.Test.YthmhehehomieiaaGreatJoinG
import Derived.Deep.RegionHeld3
import Derived.Laws.AppendOwn
import Derived.Maps.AppendAt
import Derived.OwnWalk
import Derived.BigQuiet

/- What the walks over scripts share; the walk of CoreCopies. -/
namespace Go.Proofs.YthmhehehomieiaaGreat
open Go.RowKit

theorem change_len (G : Gr) (k a b c v : Int) : (G.change k a b c v).2.hs.length = G.hs.length := by
  unfold Gr.change Gr.hold Gr.setNode
  repeat' split
  all_goals simp
theorem doG_len (nu : Int) (G : Gr) (k a p q v : Int) : (doG nu G k a p q v).hs.length = G.hs.length := by
  unfold doG stG
  split
  · split
    · rfl
    · exact change_len _ _ _ _ _ _
  · rfl

/-- Two handles are there. -/
theorem Gr.two {G : Gr} (h : 2 ≤ G.hs.length) : ∃ ns x0 x1 r lg, G = ⟨ns, x0 :: x1 :: r, lg⟩ := by
  obtain ⟨ns, hs, lg⟩ := G
  match hs, h with
  | x0 :: x1 :: r, _ => exact ⟨ns, x0, x1, r, lg, rfl⟩

section
variable (ns : List Node2) (x0 x1 : Int) (r : List Int) (lg : Int)
theorem two_has0 : (Gr.mk ns (x0 :: x1 :: r) lg).has 0 = true := by simp [Gr.has]; omega
theorem two_has1 : (Gr.mk ns (x0 :: x1 :: r) lg).has 1 = true := by simp [Gr.has]; omega
theorem two_held0 : (Gr.mk ns (x0 :: x1 :: r) lg).held 0 = x0 := rfl
theorem two_held1 : (Gr.mk ns (x0 :: x1 :: r) lg).held 1 = x1 := rfl
theorem two_copy : (Gr.mk ns (x0 :: x1 :: r) lg).change 7 0 1 0 0 = (0, ⟨ns, x1 :: x1 :: r, lg⟩) := by
  unfold Gr.change
  simp only [two_has0, two_has1]
  rfl
theorem two_clear1 : (Gr.mk ns (x0 :: x1 :: r) lg).change 6 1 0 0 0 = (0, ⟨ns, x0 :: 0 :: r, lg⟩) := by
  unfold Gr.change
  simp only [two_has1]
  rfl
theorem two_same : (Gr.mk ns (x0 :: x1 :: r) lg).ask 8 0 1 = (0, x0 == x1, 0, 0) := by
  unfold Gr.ask
  simp only [two_has0, two_has1]
  rfl
theorem two_nil0 : (Gr.mk ns (x0 :: x1 :: r) lg).ask 9 0 0 = (0, x0 == 0, 0, 0) := by
  unfold Gr.ask
  simp only [two_has0]
  rfl
theorem two_nil1 : (Gr.mk ns (x0 :: x1 :: r) lg).ask 9 1 0 = (0, x1 == 0, 0, 0) := by
  unfold Gr.ask
  simp only [two_has1]
  rfl
end

/-- The core holds a graph with so many handles. -/
def Kl (w0 w : World) (Z : Nat → Prop) (b : Nat) (c : Cfg) (n : Nat) : Prop := ∃ G, Kg w0 w Z b c G ∧ G.hs.length = n

set_option maxHeartbeats 8000000 in
set_option maxRecDepth 100000 in
theorem coreCopies_walk (a b c d : Int) (ha : By a) (hb : By b) (hc : By c) (hd : By d) (A : Option Addr) (n cp : Nat) (w : World) (rd : RdSt w A n) (_ : n ≤ cp) (_ : cp ≤ maxLen) :
    Calls Tryz.prog 10 #[.int .u8 a, .int .u8 b, .int .u8 c, .int .u8 d, .slice A n cp] w fun e w' => e = .returned (.bool true) ∧ Below w.heap.size w w' := by
  have HC := Lib.hid (config_any a b c d ha hb hc hd)
  have HM := Lib.hid (cfgOf_may a b c d ha hb hc hd)
  have HH := Lib.hid (show (Gr.none_ (cfgOf a b c d)).hs.length = (cfgOf a b c d).ha.toNat from zeros_length _)
  have H2 := Lib.hid (show 2 ≤ (cfgOf a b c d).ha.toNat from by show 2 ≤ (a % 5 + 2).toNat; have := ha.1; omega)
  have RD := Lib.hid rd
  clear ha hb hc hd rd
  generalize cfgOf a b c d = cf at *
  go_enter Tryz.func10, Tryz.ntmps10
  go_wp2_with fail
  refine (HC.out _).mono ?_
  rintro e w1 ⟨rfl, b1⟩
  have HN := Lib.hid (kg_new (w0 := w) (Z := noZ) HM.out b1 (fun _ e => e.elim))
  clear b1 HC
  go_wp2_with fail
  refine HN.out.mono ?_
  rintro e w2 ⟨b, rfl, k2, _⟩
  have K2 := Lib.hid k2
  clear k2 HN HM
  go_wp2_with fail
  refine (awake13_walk _).mono ?_
  rintro e w3 ⟨rfl, b3⟩
  have KL := Lib.hid (show Kl w w3 noZ b cf cf.ha.toNat from ⟨_, K2.out.keep b3, HH.out⟩)
  clear b3 K2 HH
  go_wp2_with fail
  go_loopw [13] (fun s wr => ∃ (i : Nat), i ≤ n ∧ i ≤ 60 ∧ s = .int .i64 i ∧ Hid (Kl w wr noZ b cf cf.ha.toNat)) (fun s _ => n - (intOf s).toNat)
  case atStart => exact ⟨0, Nat.zero_le _, Nat.zero_le _, rfl, KL⟩
  case round =>
    clear KL
    obtain ⟨i, hi, hi2, rfl, KL⟩ := hrel
    by_cases hlt : i < n ∧ i < 60
    · obtain ⟨h1, h2⟩ := hlt
      obtain ⟨ad, k, x, p, q, v, rfl, _, iq, hcell⟩ := RD.out i h1
      obtain ⟨G, HG, hL⟩ := KL.out
      obtain ⟨c0, c1, c2, c3, c4⟩ := hcell _ HG.bel
      have HD := Lib.hid (kg_do HG k x p q v iq.2)
      have hL := Lib.hid ((doG_len cf.nu G k x p q v).trans hL)
      have h3 : (i : Int) < (n : Int) := by omega
      have h4 : (i : Int) < 60 := by omega
      have h5 : (0 : Int) ≤ (i : Int) := by omega
      clear KL HG hcell
      go_wp2_with fail
      refine HD.out.mono ?_
      rintro e w2 ⟨rfl, k2, _⟩
      have KN := Lib.hid (show Kl w w2 noZ b cf cf.ha.toNat from ⟨_, k2, hL.out⟩)
      clear k2 HD hL c0 c1 c2 c3 c4
      go_wp2
      go_roundw
      case rel => exact ⟨i + 1, by omega, by omega, by go_num, KN⟩
      case measure => simp [intOf]; omega
    · have hlt : ((i : Int) < (n : Int) ∧ ¬ ((i : Int) < 60)) ∨ ¬ ((i : Int) < (n : Int)) := by omega
      generalize wr = wo at *
      clear RD hi hi2
      obtain ⟨G, HG, hL⟩ := KL.out
      obtain ⟨ns, x0, x1, r, lg, rfl⟩ := Gr.two (G := G) (by rw [hL]; exact H2.out)
      have K := Lib.hid HG
      have HS := Lib.hid (kg_stats HG)
      clear KL HG hL H2
      simp only at HS
      obtain ⟨m1, hm1⟩ : ∃ m1 : Int, (ns.length : Int) = m1 := ⟨_, rfl⟩
      obtain ⟨m2, hm2⟩ : ∃ m2 : Int, (tot ns : Int) = m2 := ⟨_, rfl⟩
      rw [hm1, hm2] at HS
      have HM := Lib.hid (And.intro hm1 hm2)
      clear hm1 hm2
      rcases hlt with ⟨g1, g2⟩ | g1
      all_goals
        go_wp2_with fail
        refine HS.out.mono ?_
        rintro e w4 ⟨rfl, b4⟩
        have K4 := Lib.hid ((K.out.keep b4).grow (Z' := fun k => k = w4.heap.size) ((Below.refl _ w4).alloc (Nat.le_refl _) (stO8 m1 m2 0 0 0 m2 0 (cf.ps * cf.pz))) (fun k e => .inr ⟨by omega, by subst e; simp⟩))
        have X4 := Lib.hid (Blk.new w4 (stL8 m1 m2 0 0 0 m2 0 (cf.ps * cf.pz)) 31)
        clear b4 HS K
        go_wp2_with fail
        have h := kg_copy K4.out 0 1
        rw [two_copy] at h
        refine h.mono ?_
        rintro e w5 ⟨rfl, k5, p5⟩
        have K5 := Lib.hid k5
        have X5 := Lib.hid (X4.out.kp p5 rfl)
        clear h k5 p5 K4 X4
        go_wp2_with fail
        have h := kg_same K5.out 0 1
        rw [two_same, beq_self_eq_true] at h
        refine h.mono ?_
        rintro e w6 ⟨rfl, rfl⟩
        clear h
        go_wp2_with fail
        have h := kg_nil K5.out 1
        rw [two_nil1] at h
        obtain ⟨nb, hnb⟩ : ∃ nb, (x1 == 0) = nb := ⟨_, rfl⟩
        rw [hnb] at h
        have NB := Lib.hid hnb
        clear hnb
        refine h.mono ?_
        rintro e w6 ⟨rfl, rfl⟩
        clear h
        go_wp2_with fail
        have K5 := K5.out.keep (below_drew w5)
        have X5 := X5.out.drew
        have X5' := X5
        go_region_held3 (fun w' => w'.cell? ⟨w4.heap.size, 0, none⟩ = some (.int .i64 m1) ∧ w'.cell? ⟨w4.heap.size, 1, none⟩ = some (.int .i64 m2) ∧ w'.cell? ⟨w4.heap.size, 2, none⟩ = some (.int .i64 0) ∧ w'.cell? ⟨w4.heap.size, 3, none⟩ = some (.int .i64 0) ∧ w'.cell? ⟨w4.heap.size, 4, none⟩ = some (.int .i64 0) ∧ w'.cell? ⟨w4.heap.size, 5, none⟩ = some (.int .i64 m2) ∧ w'.cell? ⟨w4.heap.size, 6, none⟩ = some (.int .i64 0) ∧ w'.cell? ⟨w4.heap.size, 7, none⟩ = some (.int .i64 (cf.ps * cf.pz))) (exact ⟨X5.cell 0, X5.cell 1, X5.cell 2, X5.cell 3, X5.cell 4, X5.cell 5, X5.cell 6, X5.cell 7⟩) (first
          | (go_at_call 20; have h := kg_stats K5; simp only at h; rw [HM.out.1, HM.out.2] at h; refine h.mono ?_; rintro e v1 ⟨rfl, b2⟩; have K5 := K5.keep b2; have X5 := X5.keep b2; clear b2 h))
        all_goals
          rename_i v1 _ _
          have K6 := Lib.hid K5
          clear K5 X5
          go_wp2_with fail
          have h := kg_clear K6.out 1
          rw [two_clear1] at h
          refine h.mono ?_
          rintro e w7 ⟨rfl, k7, _⟩
          have K7 := Lib.hid k7
          clear h k7 K6
          go_wp2_with fail
          have h := kg_same K7.out 0 1
          rw [two_same, NB.out] at h
          refine h.mono ?_
          rintro e w8 ⟨rfl, rfl⟩
          clear h
          go_wp2
          go_ret
          exact ⟨by simp, K7.out.bel⟩
end Go.Proofs.YthmhehehomieiaaGreat

/- The walk of CoreSteady. -/
namespace Go.Proofs.YthmhehehomieiaaGreat
open Go.RowKit

/-- A core at rest: what its handles hold is xs; a list of it, and what it had done, lie beside. -/
structure Std (w0 w : World) (c : Cfg) (b : Nat) (xs : List Int) (m1 m2 : Int) : Prop where
  core : ∃ S s G, Cr w b S s ∧ Rep s G ∧ s.hs = xs ∧ (G.ns.length : Int) = m1 ∧ (tot G.ns : Int) = m2 ∧ s.cf = c
  bel : Below w0.heap.size w0 w

section
variable {w0 w w' : World} {c : Cfg} {b : Nat} {xs : List Int} {m1 m2 : Int}
theorem Std.keep (h : Std w0 w c b xs m1 m2) (f : Below w.heap.size w w') : Std w0 w' c b xs m1 m2 := by
  obtain ⟨⟨S, s, G, h1, h2⟩, hb⟩ := h
  exact ⟨⟨S, s, G, h1.keep f, h2⟩, below_trans hb f⟩

theorem std_of {Z : Nat → Prop} {n : Nat} (h : Kl w0 w Z b c n) : ∃ xs m1 m2, xs.length = n ∧ Std w0 w c b xs m1 m2 ∧ ∀ x ∈ xs, InI x := by
  obtain ⟨G, ⟨s, k, e⟩, hl⟩ := h
  obtain ⟨S, hC, _⟩ := k.is
  refine ⟨s.hs, _, _, by rw [k.rep.hs, List.length_map, hl], ⟨⟨S, s, G, hC, k.rep, rfl, rfl, rfl, e⟩, k.bel⟩, fun x hx => ?_⟩
  rw [k.rep.hs] at hx
  obtain ⟨q, hq, rfl⟩ := List.mem_map.1 hx
  have h1 := k.rep.hin q hq
  have h2 := @plc_in G.ns q h1.2
  have h3 := k.rep.room
  have h4 := hC.may.nu1
  unfold InI
  omega

theorem std_all (h : Std w0 w c b xs m1 m2) : ∃ t : Nat, w.cell? ⟨b, 18, none⟩ = some (htP t) ∧ Calls Tryz.prog 21 #[htP t] w fun e w' => ∃ A c', e = .returned (.slice A xs.length c') ∧ Qu w' A xs.length c' xs ∧ Below w.heap.size w w' := by
  obtain ⟨⟨S, s, G, hC, r, rfl, _⟩, _⟩ := h
  obtain ⟨P, own, h0, rfl, _⟩ := hC
  obtain ⟨tg, ht, _⟩ := h0.prt 6
  exact ⟨P.t, h0.cell 18, (tbAll_any _ _ _ _ ht).mono fun _ _ ⟨A, c', h1, h2, h3, _⟩ => ⟨A, c', h1, h2, h3⟩⟩
theorem std_stats (h : Std w0 w c b xs m1 m2) : Calls Tryz.prog 20 #[ptr b] w fun e w' => e = .returned (stV8 m1 m2 0 0 0 m2 0 (c.ps * c.pz)) ∧ Below w.heap.size w w' := by
  obtain ⟨⟨S, s, G, hC, r, rfl, rfl, rfl, rfl⟩, _⟩ := h
  have u := r.calm.used
  have := stats_any hC (by omega) (by omega)
  rw [u, r.calm.left, r.use, r.d, Int.add_zero, Int.sub_zero] at this
  exact this
theorem std_now (h : Std w0 w c b xs m1 m2) (x : Int) : Calls Tryz.prog 31 #[ptr b, .int .i64 x] w fun e w' => e = .returned (.int .i64 x) ∧ Below w.heap.size w w' := by
  obtain ⟨⟨S, s, G, hC, r, _⟩, _⟩ := h
  exact now_of x w (leaving_no hC x (r.calm.from_ x))
theorem std_move (h : Std w0 w c b xs m1 m2) (x : Int) : Calls Tryz.prog 32 #[ptr b, .int .i64 x] w fun e w' => e = .returned (.int .i64 x) ∧ Below w.heap.size w w' := by
  obtain ⟨⟨S, s, G, hC, r, _⟩, _⟩ := h
  exact move_of x w (leaving_no hC x (r.calm.from_ x))
theorem std_mark (h : Std w0 w c b xs m1 m2) (x : Int) : Calls Tryz.prog 29 #[ptr b, .int .i64 x] w fun e w' => e = .returned (.tuple #[]) ∧ w = w' := by
  obtain ⟨⟨S, s, G, hC, r, _⟩, _⟩ := h
  exact mark_no hC x (by rw [r.calm.idle]; omega)
theorem std_note (h : Std w0 w c b xs m1 m2) (x : Int) (hx : InI x) : Calls Tryz.prog 30 #[ptr b, .int .i64 x] w fun e w' => e = .returned (.tuple #[]) ∧ Below w.heap.size w w' := by
  obtain ⟨⟨S, s, G, hC, r, _⟩, _⟩ := h
  exact note_no hC x hx.1 hx.2 (r.calm.old x)
/-- What is read at the end. -/
theorem std_end (h : Std w0 w c b xs m1 m2) : ∃ g r : Nat, (∀ w', Below w.heap.size w w' → w'.cell? ⟨b, 17, none⟩ = some (grP g) ∧ w'.cell? ⟨b, 16, none⟩ = some (ptr r) ∧ w'.cell? ⟨b, 20, none⟩ = some (.int .i64 0) ∧ w'.cell? ⟨b, 21, none⟩ = some (.bool false)) ∧
    (∀ w', Below w.heap.size w w' → Calls Tryz.prog 38 #[grP g] w' fun e w'' => e = .returned (.int .i64 0) ∧ w' = w'') ∧
    (∀ w', Below w.heap.size w w' → Calls Tryz.prog 39 #[ptr r] w' fun e w'' => e = .returned (.int .i64 0) ∧ Below w'.heap.size w' w'') := by
  obtain ⟨⟨S, s, G, hC, rr, _⟩, _⟩ := h
  obtain ⟨P, own, h0, rfl, _⟩ := hC
  obtain ⟨A, cc, hg, _⟩ := h0.prt 5
  obtain ⟨p, hr, _⟩ := h0.prt 4
  have lt := (h0.prt 0).1.lt
  refine ⟨P.g, P.r, fun w' f => ⟨(f.cell (p := ⟨P.b, 17, none⟩) lt).trans (h0.cell 17), (f.cell (p := ⟨P.b, 16, none⟩) lt).trans (h0.cell 16), ?_, ?_⟩, fun w' f => ?_, fun w' f => ?_⟩
  · have := (f.cell (p := ⟨P.b, 20, none⟩) lt).trans (h0.cell 20)
    rw [this]
    show some (Value.int .i64 s.ph) = _
    rw [rr.calm.idle]
  · have := (f.cell (p := ⟨P.b, 21, none⟩) lt).trans (h0.cell 21)
    rw [this]
    show some (Value.bool s.mv) = _
    rw [rr.calm.still]
  · have := grLen_any _ _ _ _ _ _ _ w' (hg.keep f)
    rw [rr.gx] at this
    exact this
  · have := set_len _ _ _ _ _ _ _ _ _ _ w' (hr.keep f)
    rw [rr.ry, rr.rn] at this
    exact this
end

/-- .. and a list of it, and what it had done, lie beside. -/
structure St3 (w0 w : World) (c : Cfg) (b : Nat) (xs : List Int) (m1 m2 : Int) (A : Option Addr) (n ca sb : Nat) : Prop where
  std : Std w0 w c b xs m1 m2
  qu : Qu w A n ca xs
  box : Blk w sb (stL8 m1 m2 0 0 0 m2 0 (c.ps * c.pz)) 31
theorem St3.keep {w0 w w' : World} {c : Cfg} {b : Nat} {xs : List Int} {m1 m2 : Int} {A : Option Addr} {n ca sb : Nat} (h : St3 w0 w c b xs m1 m2 A n ca sb) (f : Below w.heap.size w w') : St3 w0 w' c b xs m1 m2 A n ca sb := ⟨h.std.keep f, h.qu.keep f, h.box.keep f⟩
theorem qu_cell {w : World} {g off n ca i : Nat} {xs : List Int} {x : Int} (h : Qu w (some ⟨g, off, none⟩) n ca xs) (hn : 0 < n) (hx : xs[i]? = some x) : w.cell? ⟨g, off + i, none⟩ = some (.int .i64 x) := by
  obtain ⟨g', off', e, _, hc, _⟩ := h.at_ hn
  cases e
  exact hc i x hx
theorem qu_spot {w : World} {A : Option Addr} {n ca : Nat} {xs : List Int} (h : Qu w A n ca xs) (hn : 0 < n) : ∃ g off, A = some ⟨g, off, none⟩ := by
  obtain ⟨g, off, e, _⟩ := h.at_ hn
  exact ⟨g, off, e⟩

set_option maxHeartbeats 16000000 in
set_option maxRecDepth 100000 in
theorem coreSteady_walk (a b c d : Int) (ha : By a) (hb : By b) (hc : By c) (hd : By d) (A : Option Addr) (n cp : Nat) (w : World) (rd : RdSt w A n) (_ : n ≤ cp) (_ : cp ≤ maxLen) :
    Calls Tryz.prog 8 #[.int .u8 a, .int .u8 b, .int .u8 c, .int .u8 d, .slice A n cp] w fun e w' => e = .returned (.bool true) ∧ Below w.heap.size w w' := by
  have HC := Lib.hid (config_any a b c d ha hb hc hd)
  have HM := Lib.hid (cfgOf_may a b c d ha hb hc hd)
  have HH := Lib.hid (show (Gr.none_ (cfgOf a b c d)).hs.length = (cfgOf a b c d).ha.toNat from zeros_length _)
  have H2 := Lib.hid (show 2 ≤ (cfgOf a b c d).ha.toNat from by show 2 ≤ (a % 5 + 2).toNat; have := ha.1; omega)
  have RD := Lib.hid rd
  clear ha hb hc hd rd
  generalize cfgOf a b c d = cf at *
  have few : Hid (cf.ha.toNat ≤ 64) := Lib.hid (by have := HM.out.ha1; omega)
  go_enter Tryz.func8, Tryz.ntmps8
  go_wp2_with fail
  refine (HC.out _).mono ?_
  rintro e w1 ⟨rfl, b1⟩
  have HN := Lib.hid (kg_new (w0 := w) (Z := noZ) HM.out b1 (fun _ e => e.elim))
  clear b1 HC
  go_wp2_with fail
  refine HN.out.mono ?_
  rintro e w2 ⟨b, rfl, k2, _⟩
  have K2 := Lib.hid k2
  clear k2 HN HM
  go_wp2_with fail
  refine (awake13_walk _).mono ?_
  rintro e w3 ⟨rfl, b3⟩
  have KL := Lib.hid (show Kl w w3 noZ b cf cf.ha.toNat from ⟨_, K2.out.keep b3, HH.out⟩)
  clear b3 K2 HH
  go_wp2_with fail
  go_loopw [13] (fun s wr => ∃ (i : Nat), i ≤ n ∧ i ≤ 60 ∧ s = .int .i64 i ∧ Hid (Kl w wr noZ b cf cf.ha.toNat)) (fun s _ => n - (intOf s).toNat)
  case atStart => exact ⟨0, Nat.zero_le _, Nat.zero_le _, rfl, KL⟩
  case round =>
    clear KL
    obtain ⟨i, hi, hi2, rfl, KL⟩ := hrel
    by_cases hlt : i < n ∧ i < 60
    · obtain ⟨h1, h2⟩ := hlt
      obtain ⟨ad, k, x, p, q, v, rfl, _, iq, hcell⟩ := RD.out i h1
      obtain ⟨G, HG, hL⟩ := KL.out
      obtain ⟨c0, c1, c2, c3, c4⟩ := hcell _ HG.bel
      have HD := Lib.hid (kg_do HG k x p q v iq.2)
      have hL := Lib.hid ((doG_len cf.nu G k x p q v).trans hL)
      have h3 : (i : Int) < (n : Int) := by omega
      have h4 : (i : Int) < 60 := by omega
      have h5 : (0 : Int) ≤ (i : Int) := by omega
      clear KL HG hcell
      go_wp2_with fail
      refine HD.out.mono ?_
      rintro e w2 ⟨rfl, k2, _⟩
      have KN := Lib.hid (show Kl w w2 noZ b cf cf.ha.toNat from ⟨_, k2, hL.out⟩)
      clear k2 HD hL c0 c1 c2 c3 c4
      go_wp2
      go_roundw
      case rel => exact ⟨i + 1, by omega, by omega, by go_num, KN⟩
      case measure => simp [intOf]; omega
    · have hlt : ((i : Int) < (n : Int) ∧ ¬ ((i : Int) < 60)) ∨ ¬ ((i : Int) < (n : Int)) := by omega
      generalize wr = wo at *
      clear RD hi hi2
      obtain ⟨xs, m1, m2, hL, hS, hx⟩ := std_of KL.out
      have HS := Lib.hid hS
      have HX := Lib.hid hx
      have FW : Hid (xs.length ≤ 64) := Lib.hid (by have := few.out; omega)
      obtain ⟨t, c18, hA⟩ := std_all hS
      have HA := Lib.hid hA
      clear KL hL hS hx hA H2 few
      rcases hlt with ⟨g1, g2⟩ | g1
      all_goals
        go_wp2_with fail
        refine HA.out.mono ?_
        rintro e w4 ⟨A4, c4, rfl, q4, b4⟩
        have S4 := Lib.hid (HS.out.keep b4)
        have Q4 := Lib.hid q4
        have HT := Lib.hid (std_stats S4.out)
        clear q4 b4 HS HA c18
        go_wp2_with fail
        refine HT.out.mono ?_
        rintro e w5 ⟨rfl, b5⟩
        have ba := (Below.refl _ w5).alloc (Nat.le_refl _) (stO8 m1 m2 0 0 0 m2 0 (cf.ps * cf.pz))
        have KL := Lib.hid (show St3 w _ cf b xs m1 m2 A4 xs.length c4 w5.heap.size from ⟨(S4.out.keep b5).keep ba, (Q4.out.keep b5).keep ba, Blk.new w5 (stL8 m1 m2 0 0 0 m2 0 (cf.ps * cf.pz)) 31⟩)
        clear b5 ba S4 Q4 HT
        obtain ⟨N, NN⟩ : ∃ N, Hid (xs.length = N) := ⟨_, Lib.hid rfl⟩
        rw [NN.out] at KL FW ⊢
        have n64 := FW.out
        clear FW
        go_wp2_with fail
        go_loopw [16] (fun s wr => ∃ (i : Nat), i ≤ N ∧ s = .int .i64 i ∧ Hid (St3 w wr cf b xs m1 m2 A4 N c4 w5.heap.size)) (fun s _ => N - (intOf s).toNat)
        case atStart => exact ⟨0, Nat.zero_le _, rfl, KL⟩
        case round =>
          clear KL
          obtain ⟨i, hi, rfl, KL⟩ := hrel
          by_cases hlt : i < N
          · obtain ⟨x, hxi⟩ : ∃ x, xs[i]? = some x := ⟨_, List.getElem?_eq_getElem (by rw [NN.out]; exact hlt)⟩
            obtain ⟨gq, off, rfl⟩ := qu_spot KL.out.qu (by omega)
            have IX := Lib.hid (HX.out x (List.mem_of_getElem? hxi))
            have XI := Lib.hid hxi
            have N0 := Lib.hid (show 0 < N by omega)
            have ci := qu_cell KL.out.qu N0.out hxi
            have h3 : (i : Int) < (N : Int) := by omega
            have h4 : (0 : Int) ≤ (i : Int) := by omega
            clear hxi
            go_wp2_with fail
            have K := KL.out.keep (below_drew wr)
            clear ci
            have ci := qu_cell K.qu N0.out XI.out
            clear KL
            go_region_held3 (fun w' => w'.cell? ⟨gq, off + i, none⟩ = some (.int .i64 x)) (exact ci) (first
              | (go_at_call 31; refine (std_now K.std x).mono ?_; rintro e v1 ⟨rfl, b2⟩; have K := K.keep b2; have ci := qu_cell K.qu N0.out XI.out; clear b2)
              | (go_at_call 32; refine (std_move K.std x).mono ?_; rintro e v1 ⟨rfl, b2⟩; have K := K.keep b2; have ci := qu_cell K.qu N0.out XI.out; clear b2))
            all_goals
              have KK := Lib.hid K
              clear K
              go_wp2_with fail
              refine (std_mark KK.out.std x).mono ?_
              rintro e v2 ⟨rfl, rfl⟩
              go_wp2_with fail
              refine (std_note KK.out.std x IX.out).mono ?_
              rintro e v3 ⟨rfl, b3⟩
              have KN := Lib.hid (KK.out.keep b3)
              clear b3 KK ci
              go_wp2
              go_roundw
              case rel => exact ⟨i + 1, by omega, by go_num, KN⟩
              case measure => simp [intOf]; omega
          · have h3 : ¬ ((i : Int) < (N : Int)) := by omega
            generalize wr = wz at *
            obtain ⟨t2, c18, hA⟩ := std_all KL.out.std
            rw [NN.out] at hA
            have HA := Lib.hid hA
            clear hA
            go_wp2_with fail
            refine HA.out.mono ?_
            rintro e w6 ⟨A6, c6, rfl, q6, b6⟩
            have KM := Lib.hid (And.intro (KL.out.keep b6) q6)
            clear q6 b6 HA c18 KL
            go_wp2_with fail
            go_loopw [18] (fun s wr => ∃ (i : Nat), i ≤ N ∧ s = .int .i64 i ∧ Hid (St3 w wr cf b xs m1 m2 A4 N c4 w5.heap.size ∧ Qu wr A6 N c6 xs)) (fun s _ => N - (intOf s).toNat)
            case atStart => exact ⟨0, Nat.zero_le _, rfl, KM⟩
            case round =>
              clear KM
              obtain ⟨i, hi, rfl, KM⟩ := hrel
              by_cases hlt : i < N
              · obtain ⟨x, hxi⟩ : ∃ x, xs[i]? = some x := ⟨_, List.getElem?_eq_getElem (by rw [NN.out]; exact hlt)⟩
                obtain ⟨gq, off, rfl⟩ := qu_spot KM.out.1.qu (by omega)
                obtain ⟨gr, of2, rfl⟩ := qu_spot KM.out.2 (by omega)
                have ci := qu_cell KM.out.1.qu (by omega) hxi
                have cj := qu_cell KM.out.2 (by omega) hxi
                have h3 : (i : Int) < (N : Int) := by omega
                have h4 : (0 : Int) ≤ (i : Int) := by omega
                clear hxi
                go_wp2
                go_region
                all_goals
                  have KN := Lib.hid (And.intro (KM.out.1.keep (below_drew wr)) (KM.out.2.keep (below_drew wr)))
                  clear ci cj
                  go_wp2
                  go_roundw
                  case rel => exact ⟨i + 1, by omega, by go_num, KN⟩
                  case measure => simp [intOf]; omega
              · have h3 : ¬ ((i : Int) < (N : Int)) := by omega
                generalize wr = wq at *
                have K := KM.out.1.keep (below_drew wq)
                obtain ⟨g, r, hce, hle, hrl⟩ := std_end K.std
                have HL := Lib.hid hle
                have HR := Lib.hid hrl
                have HE := Lib.hid hce
                have X8 := K.box
                have S8 := K.std
                have B8 := Below.refl wq.drew.heap.size wq.drew
                have C8 := hce _ B8
                clear hle hrl hce KM K
                go_wp2_with fail
                go_region_held3 (fun w' => w'.cell? ⟨w5.heap.size, 0, none⟩ = some (.int .i64 m1) ∧ w'.cell? ⟨w5.heap.size, 1, none⟩ = some (.int .i64 m2) ∧ w'.cell? ⟨w5.heap.size, 2, none⟩ = some (.int .i64 0) ∧ w'.cell? ⟨w5.heap.size, 3, none⟩ = some (.int .i64 0) ∧ w'.cell? ⟨w5.heap.size, 4, none⟩ = some (.int .i64 0) ∧ w'.cell? ⟨w5.heap.size, 5, none⟩ = some (.int .i64 m2) ∧ w'.cell? ⟨w5.heap.size, 6, none⟩ = some (.int .i64 0) ∧ w'.cell? ⟨w5.heap.size, 7, none⟩ = some (.int .i64 (cf.ps * cf.pz)) ∧ w'.cell? ⟨b, 17, none⟩ = some (grP g) ∧ w'.cell? ⟨b, 16, none⟩ = some (ptr r) ∧ w'.cell? ⟨b, 20, none⟩ = some (.int .i64 0) ∧ w'.cell? ⟨b, 21, none⟩ = some (.bool false)) (exact ⟨X8.cell 0, X8.cell 1, X8.cell 2, X8.cell 3, X8.cell 4, X8.cell 5, X8.cell 6, X8.cell 7, C8⟩) (first
                  | (go_at_call 38; refine (HL.out _ B8).mono ?_; rintro e v1 ⟨rfl, rfl⟩)
                  | (go_at_call 39; refine (HR.out _ B8).mono ?_; rintro e v1 ⟨rfl, b2⟩; have S8 := S8.keep b2; have X8 := X8.keep b2; have B8 := below_trans B8 b2; have C8 := HE.out _ B8; clear b2)
                  | (go_at_call 20; refine (std_stats S8).mono ?_; rintro e v1 ⟨rfl, b2⟩; have S8 := S8.keep b2; have X8 := X8.keep b2; have B8 := below_trans B8 b2; have C8 := HE.out _ B8; clear b2))
                all_goals
                  go_wp2
                  go_ret
                  exact ⟨by simp, S8.bel⟩
end Go.Proofs.YthmhehehomieiaaGreat

/- Slices of words that the statements make; words, filled, same. -/
namespace Go.Proofs.YthmhehehomieiaaGreat
open Go.RowKit

def vals (ys : List Int) : List Value := ys.map (Value.int .u64)

/-- Block g, of so many cells, begins with the words ys. -/
def Row (w : World) (g cap : Nat) (ys : List Int) : Prop :=
  ∃ cur, Blk w g cur 51 ∧ ys.length ≤ cap ∧ cap ≤ maxLen ∧ cur.size = cap ∧ cur.toList.take ys.length = vals ys

section
variable {w w' : World} {g cap : Nat} {ys : List Int}
theorem Row.lt (h : Row w g cap ys) : g < w.heap.size := by obtain ⟨_, hB, _⟩ := h; exact hB.lt
theorem Row.keep (h : Row w g cap ys) (b : Below w.heap.size w w') : Row w' g cap ys := by obtain ⟨cur, hB, r⟩ := h; exact ⟨cur, hB.keep b, r⟩
theorem Row.now (h : Row w g cap ys) {a b : Nat} {ws : List Int} (n : Now a b ws w w') (ha : g ≠ a) (hb : g ≠ b) : Row w' g cap ys := by obtain ⟨cur, hB, r⟩ := h; exact ⟨cur, n.blk hB ha hb, r⟩
theorem Row.alloc (h : Row w g cap ys) (o : Obj) : Row (w.alloc o) g cap ys := by obtain ⟨cur, hB, r⟩ := h; exact ⟨cur, hB.alloc o, r⟩
theorem Row.far (h : Row w g cap ys) {p : Addr} (hp : g ≠ p.block) (v : Value) : Row (w.setCell p v) g cap ys := by obtain ⟨cur, hB, r⟩ := h; exact ⟨cur, hB.far hp v, r⟩
theorem Row.at_ (h : Row w g cap ys) {i : Nat} {y : Int} (hy : ys[i]? = some y) : w.cell? ⟨g, i, none⟩ = some (.int .u64 y) := by
  obtain ⟨cur, hB, _, _, _, ht⟩ := h
  have hi : i < ys.length := (List.getElem?_eq_some_iff.1 hy).1
  have e : (vals ys)[i]? = some (.int .u64 y) := by simp [vals, hy]
  rw [hB.cell, ← e, ← ht, List.getElem?_take_of_lt hi, Array.getElem?_toList]
theorem Row.frozen (h : Row w g cap ys) (i : Nat) : w.frozen? ⟨g, i, none⟩ = false := by obtain ⟨_, hB, _⟩ := h; exact hB.frozen i
theorem Row.cap_le (h : Row w g cap ys) : ys.length ≤ cap := by obtain ⟨_, _, h, _⟩ := h; exact h
theorem Row.set_ (h : Row w g cap ys) (i : Nat) (y : Int) : Row (w.setCell ⟨g, i, none⟩ (.int .u64 y)) g cap (ys.set i y) := by
  obtain ⟨cur, hB, h1, h2, h3, ht⟩ := h
  refine ⟨_, hB.set_ i _, by rw [List.length_set]; exact h1, h2, by simpa using h3, ?_⟩
  rw [List.length_set, Array.toList_setIfInBounds, List.take_set, ht]
  simp [vals, List.map_set]
theorem Row.own (h : Row w g cap ys) {base : Nat} (hb : base ≤ g) : w.ownsRow base 51 1 (.slice (some ⟨g, 0, none⟩) ys.length cap) ys.length (vals ys) := by
  obtain ⟨cur, hB, h1, h2, h3, ht⟩ := h
  exact ⟨by simp [vals], .inr ⟨g, cap, cur, rfl, hb, hB, h1, h2, by rw [h3, Nat.mul_one], by rw [Nat.mul_one]; exact ht⟩⟩
theorem row_of {base : Nat} {v : Value} {n : Nat} (hn : n = ys.length) (h : w.ownsRow base 51 1 v n (vals ys)) (hv : v ≠ .slice none 0 0) : ∃ g cap, v = .slice (some ⟨g, 0, none⟩) ys.length cap ∧ base ≤ g ∧ Row w g cap ys := by
  subst hn
  rcases h.2 with ⟨e, _⟩ | ⟨g, cap, cur, e, hb, hB, h1, h2, h3, ht⟩
  · exact absurd e hv
  · rw [Nat.mul_one] at h3 ht
    exact ⟨g, cap, e, hb, cur, hB, h1, h2, h3, ht⟩
theorem rowU_nil (w : World) : Row (w.alloc (.cells #[] 51)) w.heap.size 0 [] := ⟨#[], Blk.new w _ _, Nat.le_refl _, Nat.zero_le _, rfl, rfl⟩
end

theorem Now.grown {w W w1 : World} {a b g : Nat} {ws : List Int} (n : Now a b ws w W) (hg : W.grownBy w1 (some g)) (hw : w.heap.size ≤ g) (hl : a < w.heap.size ∧ b < w.heap.size) : Now a b ws w w1 := by
  obtain ⟨c, i1, i2⟩ := n.is
  refine ⟨⟨c, (hg.block a i1.lt (by simp; omega)).trans i1, (hg.block b i2.lt (by simp; omega)).trans i2⟩, ?_⟩
  exact ⟨hg.os.trans n.frm.os, hg.tape.trans n.frm.tape, hg.output.trans n.frm.output, Nat.le_trans n.frm.size hg.size, fun k hk hn => (hg.block k (Nat.lt_of_lt_of_le hk n.frm.size) (by simp; omega)).trans (n.frm.block k hk hn)⟩

theorem takeU_snoc {α : Type} {cs : List α} {j : Nat} {c : α} (h : cs[j]? = some c) : cs.take (j + 1) = cs.take j ++ [c] := by
  rw [List.take_add_one, h]; rfl


end Go.Proofs.YthmhehehomieiaaGreat

/- The walk of CoreErrors. -/
namespace Go.Proofs.YthmhehehomieiaaGreat
open Go.RowKit

/-- With an error nothing else is answered. -/
theorem doA_err (nu : Int) (G : Gr) (k a p q v : Int) (h : (doA nu G k a p q v).1 ≠ 0) : (doA nu G k a p q v).2 = (false, 0, 0) := by
  unfold doA at h ⊢
  split at h
  · rename_i hc; rw [if_pos hc]
  · rename_i hc
    rw [if_neg hc]
    split at h
    · rename_i hd
      rw [if_pos hd]
      unfold Gr.ask at h ⊢
      repeat' split
      all_goals first | rfl | (exfalso; simp_all)
    · exact absurd rfl h

theorem Row.kp {Z : Nat → Prop} {w w' : World} {g cap : Nat} {ys : List Int} (h : Row w g cap ys) (k : Kp Z w w') (hz : Z g) : Row w' g cap ys := by
  obtain ⟨cur, hB, r⟩ := h
  exact ⟨cur, hB.kp k hz, r⟩

abbrev stL (k a b c v : Int) : Array Value := #[.int .i64 k, .int .i64 a, .int .i64 b, .int .i64 c, .int .u64 v]

/-- What lies beside the core: the entry in block B, the list of what handles held, and so many of the arena's words, in block g. -/
structure Er (w0 w : World) (b : Nat) (s : Co) (G : Gr) (B : Nat) (sc : Array Value) (A : Option Addr) (N ca : Nat) (g cap j : Nat) : Prop where
  kz : Kz w0 w (fun k => k = B ∨ blkOf A = some k ∨ k = g) b s G
  row : Row w g cap (s.ws.take j)
  qu : Qu w A N ca s.hs
  box : Blk w B sc 53

section
variable {w0 w w' : World} {b : Nat} {s : Co} {G : Gr} {B : Nat} {sc : Array Value} {A : Option Addr} {N ca g cap j : Nat}
theorem Er.keep (h : Er w0 w b s G B sc A N ca g cap j) (f : Below w.heap.size w w') : Er w0 w' b s G B sc A N ca g cap j := ⟨h.kz.keep f, h.row.keep f, h.qu.keep f, h.box.keep f⟩
theorem Er.step {S : Nat → Prop} (h : Er w0 w b s G B sc A N ca g cap j) (ho : ∀ k, S k → w0.heap.size ≤ k ∧ ¬ (k = B ∨ blkOf A = some k ∨ k = g)) (r : CoR w b S s w') : Er w0 w' b s G B sc A N ca g cap j := by
  obtain ⟨k1, kp⟩ := h.kz.step ho r h.kz.rep
  exact ⟨k1, h.row.kp kp (.inr (.inr rfl)), h.qu.kp kp (fun k e => .inr (.inl e)), h.box.kp kp (.inl rfl)⟩

/-- The arena's length. -/
theorem er_len (h : Er w0 w b s G B sc A N ca g cap j) : ∃ a : Nat, w.cell? ⟨b, 13, none⟩ = some (arP a) ∧ Calls Tryz.prog 22 #[arP a] w fun e w' => e = .returned (.int .i64 s.ws.length) ∧ w = w' := by
  obtain ⟨S, hC, _⟩ := h.kz.is
  obtain ⟨P, own, h0, rfl, _⟩ := hC
  obtain ⟨ab, ⟨q, ha⟩, _⟩ := h0.prt 1
  exact ⟨P.a, h0.cell 13, len_any _ _ _ _ _ ha⟩
/-- A word of it. -/
theorem er_load (h : Er w0 w b s G B sc A N ca g cap j) (i x : Int) (i0 : 0 ≤ i) (hx : s.ws[i.toNat]? = some x) : ∃ a : Nat, w.cell? ⟨b, 13, none⟩ = some (arP a) ∧ Calls Tryz.prog 28 #[arP a, .int .i64 i] w fun e w' => e = .returned (.tuple #[.int .u64 x, .int .i64 0]) ∧ Er w0 w' b s G B sc A N ca g cap j := by
  obtain ⟨S, hC, ho⟩ := h.kz.is
  have hC' := hC
  obtain ⟨P, own, h0, rfl, rfl⟩ := hC
  obtain ⟨ab, ⟨q, ha⟩, oa, ob⟩ := h0.prt 1
  refine ⟨P.a, h0.cell 13, (load_at _ _ _ _ _ ha h0.wl i x i0 hx).mono ?_⟩
  rintro e w1 ⟨rfl, t⟩
  exact ⟨rfl, h.step ho (h0.arena oa ob t.now rfl)⟩
theorem er_all (h : Er w0 w b s G B sc A N ca g cap j) : ∃ t : Nat, w.cell? ⟨b, 18, none⟩ = some (htP t) ∧ Calls Tryz.prog 21 #[htP t] w fun e w' => ∃ A' c', e = .returned (.slice A' s.hs.length c') ∧ Qu w' A' s.hs.length c' s.hs ∧ Below w.heap.size w w' := by
  obtain ⟨S, hC, _⟩ := h.kz.is
  obtain ⟨P, own, h0, rfl, _⟩ := hC
  obtain ⟨tg, ht, _⟩ := h0.prt 6
  exact ⟨P.t, h0.cell 18, (tbAll_any _ _ _ _ ht).mono fun _ _ ⟨A, c', h1, h2, h3, _⟩ => ⟨A, c', h1, h2, h3⟩⟩
theorem kz_all {Z : Nat → Prop} (h : Kz w0 w Z b s G) : ∃ t : Nat, w.cell? ⟨b, 18, none⟩ = some (htP t) ∧ Calls Tryz.prog 21 #[htP t] w fun e w' => ∃ A' c', e = .returned (.slice A' s.hs.length c') ∧ Qu w' A' s.hs.length c' s.hs ∧ Below w.heap.size w w' ∧ ∀ k, blkOf A' = some k → w.heap.size ≤ k := by
  obtain ⟨S, hC, _⟩ := h.is
  obtain ⟨P, own, h0, rfl, _⟩ := hC
  obtain ⟨tg, ht, _⟩ := h0.prt 6
  exact ⟨P.t, h0.cell 18, tbAll_any _ _ _ _ ht⟩
theorem Er.wl (h : Er w0 w b s G B sc A N ca g cap j) : s.ws.length ≤ 1048576 := by
  obtain ⟨S, hC, _⟩ := h.kz.is
  exact hC.wl
theorem Er.few (h : Er w0 w b s G B sc A N ca g cap j) : s.hs.length ≤ 64 := by
  obtain ⟨S, hC, _⟩ := h.kz.is
  exact hC.few

/-- The first list and an empty row are laid beside the core. -/
theorem er_start {Z : Nat → Prop} {w1 w2 : World} (h : Kz w0 w Z b s G) (hz : Z B) (bx : Blk w B sc 53) (f : Below w.heap.size w w1) (q : Qu w1 A N ca s.hs) (hn : ∀ k, blkOf A = some k → w.heap.size ≤ k)
    (e : w2 = w1.alloc (.cells #[] 51)) : (B ≠ w1.heap.size ∧ blkOf A ≠ some w1.heap.size) ∧ Er w0 w2 b s G B sc A N ca w1.heap.size 0 0 := by
  subst e
  refine ⟨⟨fun e => by have := (bx.keep f).lt; omega, fun e => by have := q.lt e; omega⟩, ?_⟩
  have f2 := (Below.refl _ w1).alloc (Nat.le_refl _) (.cells #[] 51)
  refine ⟨h.grow (below_trans f f2) fun k hk => ?_, by rw [List.take_zero]; exact rowU_nil w1, q.keep f2, (bx.keep f).keep f2⟩
  rcases hk with rfl | hk | rfl
  · exact .inl hz
  · exact .inr ⟨hn k hk, Nat.lt_of_lt_of_le (q.lt hk) f2.size⟩
  · exact .inr ⟨f.size, by simp⟩

/-- One more word was appended. -/
theorem er_append {w2 : World} {g1 cap1 : Nat} {x : Int} (h : Er w0 w b s G B sc A N ca g cap j) (hB : B ≠ g) (hA : blkOf A ≠ some g) (hgrow : (w.alloc (.cells #[.int .u64 x] 51)).grownBy w2 (some g)) (R : Row w2 g1 cap1 (s.ws.take (j + 1)))
    (hat : some g1 = some g ∨ some g1 = some (w.alloc (.cells #[.int .u64 x] 51)).heap.size) : (B ≠ g1 ∧ blkOf A ≠ some g1) ∧ Er w0 w2 b s G B sc A N ca g1 cap1 (j + 1) := by
  have f1 := (Below.refl _ w).alloc (Nat.le_refl _) (.cells #[.int .u64 x] 51)
  have h1 := h.keep f1
  generalize w.alloc (.cells #[.int .u64 x] 51) = w1 at *
  have fr : Frm (fun k => k = g) w1 w2 := ⟨hgrow.os, hgrow.tape, hgrow.output, hgrow.size, fun k hk hn => hgrow.block k hk (by simp; omega)⟩
  refine ⟨?_, h1.kz.write fr (fun k _ e => .inr (.inr e)) fun k hk => ?_, R, h1.qu.frm fr fun k e1 e2 => hA (e2 ▸ e1), h1.box.frm fr hB⟩
  · rcases hat with e | e
    · cases e; exact ⟨hB, hA⟩
    · cases e; exact ⟨fun e => by have := h1.box.lt; omega, fun e => by have := h1.qu.lt e; omega⟩
  rcases hk with e | e | rfl
  · exact .inl (.inl e)
  · exact .inl (.inr (.inl e))
  · rcases hat with e | e
    · cases e; exact .inl (.inr (.inr rfl))
    · cases e; exact .inr ⟨Nat.le_refl _, R.lt⟩
end

set_option maxHeartbeats 16000000 in
set_option maxRecDepth 100000 in
theorem coreErrors_walk (a b c d : Int) (ha : By a) (hb : By b) (hc : By c) (hd : By d) (A : Option Addr) (n cp : Nat) (lk la lp lq lv : Int) (iq : InI lq) (w : World) (rd : RdSt w A n) (_ : n ≤ cp) (_ : cp ≤ maxLen) :
    Calls Tryz.prog 5 #[.int .u8 a, .int .u8 b, .int .u8 c, .int .u8 d, .slice A n cp, sgV lk la lp lq lv] w fun e w' => e = .returned (.bool true) ∧ Below w.heap.size w w' := by
  have HC := Lib.hid (config_any a b c d ha hb hc hd)
  have HM := Lib.hid (cfgOf_may a b c d ha hb hc hd)
  have HH := Lib.hid (show (Gr.none_ (cfgOf a b c d)).hs.length = (cfgOf a b c d).ha.toNat from zeros_length _)
  have H2 := Lib.hid (show 2 ≤ (cfgOf a b c d).ha.toNat from by show 2 ≤ (a % 5 + 2).toNat; have := ha.1; omega)
  have RD := Lib.hid rd
  clear ha hb hc hd rd
  generalize cfgOf a b c d = cf at *
  have IQ := Lib.hid iq
  obtain ⟨u0, ui, uz, us, ub⟩ := info_parts info_u64
  have HI0 := Lib.hid (And.intro ui (And.intro uz (And.intro us ub)))
  clear ui uz us ub iq
  go_enter Tryz.func5, Tryz.ntmps5
  go_wp2_with fail
  refine (HC.out _).mono ?_
  rintro e w1 ⟨rfl, b1⟩
  have X1 := Lib.hid (((Blk.new w (stL lk la lp lq lv) 53).keep b1).alloc (.cells #[.int .i64 cf.ha, .int .i64 cf.nu, .int .i64 cf.ps, .int .i64 cf.pz, .int .i64 cf.cd, .int .i64 cf.bf, .int .i64 cf.st, .int .i64 cf.tn, .int .i64 cf.lg, .int .i64 cf.mi, .int .i64 cf.ma, .int .i64 cf.na, .int .i64 cf.ja] 23))
  have B1 := Lib.hid (below_alloc_trans _ b1)
  clear b1 HC
  go_wp2_with fail
  refine (kg_new (w0 := w) (Z := fun k => k = w.heap.size) HM.out (B1.out.alloc B1.out.size _) (fun k e => ⟨by omega, by have := X1.out.lt; subst e; exact this⟩)).mono ?_
  rintro e w2 ⟨b, rfl, k2, p2⟩
  have K2 := Lib.hid k2
  have X2 := Lib.hid (X1.out.kp p2 rfl)
  clear k2 p2 HM X1 B1
  go_wp2_with fail
  refine (awake13_walk _).mono ?_
  rintro e w3 ⟨rfl, b3⟩
  have KL := Lib.hid (And.intro (show Kl w w3 (fun k => k = w.heap.size) b cf cf.ha.toNat from ⟨_, K2.out.keep b3, HH.out⟩) (X2.out.keep b3))
  clear b3 K2 HH X2
  go_wp2_with fail

  go_loopw [16] (fun s wr => ∃ (i : Nat), i ≤ n ∧ i ≤ 60 ∧ s = .int .i64 i ∧ Hid (Kl w wr (fun k => k = w.heap.size) b cf cf.ha.toNat ∧ Blk wr w.heap.size (stL lk la lp lq lv) 53)) (fun s _ => n - (intOf s).toNat)
  case atStart => exact ⟨0, Nat.zero_le _, Nat.zero_le _, rfl, KL⟩
  case round =>
    clear KL
    obtain ⟨i, hi, hi2, rfl, KL⟩ := hrel
    by_cases hlt : i < n ∧ i < 60
    · obtain ⟨h1, h2⟩ := hlt
      obtain ⟨ad, k, x, p, q, v, rfl, _, iq, hcell⟩ := RD.out i h1
      obtain ⟨⟨G, HG, hL⟩, XX⟩ := KL.out
      have XX := Lib.hid XX
      obtain ⟨c0, c1, c2, c3, c4⟩ := hcell _ HG.bel
      have HD := Lib.hid (kg_do HG k x p q v iq.2)
      have hL := Lib.hid ((doG_len cf.nu G k x p q v).trans hL)
      have h3 : (i : Int) < (n : Int) := by omega
      have h4 : (i : Int) < 60 := by omega
      have h5 : (0 : Int) ≤ (i : Int) := by omega
      clear KL HG hcell
      go_wp2_with fail
      refine HD.out.mono ?_
      rintro e w2 ⟨rfl, k2, p2⟩
      have KN := Lib.hid (And.intro (show Kl w w2 (fun k => k = w.heap.size) b cf cf.ha.toNat from ⟨_, k2, hL.out⟩) (XX.out.kp p2 rfl))
      clear k2 p2 XX HD hL c0 c1 c2 c3 c4
      go_wp2
      go_roundw
      case rel => exact ⟨i + 1, by omega, by omega, by go_num, KN⟩
      case measure => simp [intOf]; omega
    · have hlt : ((i : Int) < (n : Int) ∧ ¬ ((i : Int) < 60)) ∨ ¬ ((i : Int) < (n : Int)) := by omega
      generalize wr = wo at *
      clear RD hi hi2 H2
      obtain ⟨⟨G, ⟨s, kz, _⟩, _⟩, XX⟩ := KL.out
      have K := Lib.hid kz
      have c0 := XX.cell 0
      simp only [List.getElem?_toArray, List.getElem?_cons_zero] at c0
      have X0 := Lib.hid XX
      clear KL kz XX
      have hk : (lk < 1) ∨ (¬ lk < 1 ∧ 10 < lk) ∨ (¬ lk < 1 ∧ ¬ 10 < lk) := by omega
      rcases hlt with ⟨g1, g2⟩ | g1
      all_goals
        rcases hk with k1 | ⟨k1, k2⟩ | ⟨k1, k2⟩
        · go_wp2
          go_ret
          exact ⟨rfl, K.out.bel⟩
        · go_wp2
          go_ret
          exact ⟨rfl, K.out.bel⟩
        · obtain ⟨t, c18, hA⟩ := kz_all K.out
          obtain ⟨N, NN⟩ : ∃ N, Hid (s.hs.length = N) := ⟨_, Lib.hid rfl⟩
          rw [NN.out] at hA
          have HA := Lib.hid hA
          clear hA
          go_wp2_with fail
          refine HA.out.mono ?_
          rintro e w4 ⟨A4, c4, rfl, q4, b4, n4⟩
          have KE := Lib.hid (er_start K.out rfl X0.out b4 q4 n4 rfl)
          clear q4 b4 n4 HA c18 c0 X0 K
          obtain ⟨L, LL⟩ : ∃ L, Hid (s.ws.length = L) := ⟨_, Lib.hid rfl⟩
          have L9 : Hid (L ≤ 1048576) := Lib.hid (by rw [← LL.out]; exact KE.out.2.wl)
          go_wp2_with fail
          go_loopw [18, 19] (fun s3 s4 wr => ∃ (j g cap : Nat), j ≤ L ∧ s3 = .slice (some ⟨g, 0, none⟩) j cap ∧ s4 = .int .i64 j ∧ Hid ((w.heap.size ≠ g ∧ blkOf A4 ≠ some g) ∧ Er w wr b s G w.heap.size (stL lk la lp lq lv) A4 N c4 g cap j)) (fun _ s4 _ => L - (intOf s4).toNat)
          case atStart => exact ⟨0, w4.heap.size, 0, Nat.zero_le _, rfl, rfl, KE⟩
          case round =>
            clear KE
            obtain ⟨j, g, cap, hj, rfl, rfl, KE⟩ := hrel
            obtain ⟨a1, c13, hln⟩ := er_len KE.out.2
            rw [LL.out] at hln
            have HL := Lib.hid hln
            clear hln
            by_cases hlt' : j < L
            · obtain ⟨x, hx⟩ : ∃ x, s.ws[j]? = some x := ⟨_, List.getElem?_eq_getElem (by rw [LL.out]; exact hlt')⟩
              obtain ⟨a2, c13', hld⟩ := er_load KE.out.2 j x (by omega) (by rw [Int.toNat_natCast]; exact hx)
              obtain rfl : a1 = a2 := by
                have := c13.symm.trans c13'
                cases this
                rfl
              have HD := Lib.hid hld
              have HX := Lib.hid hx
              have NE := Lib.hid KE.out.1
              have h3 : (j : Int) < (L : Int) := by omega
              have j9 : Hid (j + 1 ≤ 1048576) := Lib.hid (by have := L9.out; omega)
              clear hld hx c13' KE
              go_wp2_with fail
              refine HL.out.mono ?_
              rintro e w5 ⟨rfl, rfl⟩
              clear HL
              go_wp2_with fail
              refine HD.out.mono ?_
              rintro e w6 ⟨rfl, er⟩
              have E6 := Lib.hid er
              have hjl : (s.ws.take j).length = j := by rw [List.length_take]; have := LL.out; omega
              have O2 := Lib.hid ((er.row.alloc (.cells #[.int .u64 x] 51)).own (Nat.zero_le _))
              rw [hjl] at O2
              clear er HD c13
              have j92 := j9.out
              go_wp2_with (first
                | (at_builtin; (refine wpList_append_own_at _ rfl _ _ 59 rfl 0 51 u0 (.int .u64 0) 1 8 Tryz.underlying59 HI0.out.1 HI0.out.2.1 HI0.out.2.2.1 HI0.out.2.2.2 rfl (by decide) _ _ _ rfl O2.out ⟨w6.heap.size, 0, none⟩ 1 1 [.int .u64 x] rfl rfl ?c1 ?c2 ?c3 ?c4 ?c5 ?_))
                | fail)
              case c1 => exact cell_one_new w6 _ 51
              case c2 => intro x hx; simp at hx; subst hx; rfl
              case c3 => unfold maxLen; omega
              case c4 => omega
              case c5 => exact Nat.zero_le _
              intro v1 w7 hown hgrow hne hat
              have en : vals (s.ws.take j) ++ [.int .u64 x] = vals (s.ws.take (j + 1)) := by rw [takeU_snoc HX.out, vals, vals, List.map_append]; rfl
              have el : j + 1 = (s.ws.take (j + 1)).length := by rw [List.length_take]; have := LL.out; omega
              rw [en] at hown
              obtain ⟨g1, cap1, e1, _, R3⟩ := row_of el hown hne
              rw [← el] at e1
              subst e1
              have KN := Lib.hid (er_append E6.out NE.out.1 NE.out.2 hgrow R3 (by rcases hat with e | e; exact .inl e; exact .inr (e.trans (by simp))))
              clear hown hgrow hne hat en el O2 E6 R3 NE hjl HX j9
              go_wp2
              go_roundw
              case rel => exact ⟨j + 1, g1, cap1, by omega, rfl, by go_num, KN⟩
              case measure => simp [intOf]; omega
            · obtain rfl : L = j := by omega
              have h3 : ¬ ((L : Int) < (L : Int)) := by omega
              generalize wr = wz at *
              go_wp2_with fail
              refine HL.out.mono ?_
              rintro e w5 ⟨rfl, rfl⟩
              have X0 := KE.out.2.box
              have d0 := X0.cell 0
              have d1 := X0.cell 1
              have d2 := X0.cell 2
              have d3 := X0.cell 3
              have d4 := X0.cell 4
              simp only [List.getElem?_toArray, List.getElem?_cons_succ, List.getElem?_cons_zero] at d0 d1 d2 d3 d4
              have HD := Lib.hid (kz_do KE.out.2.kz lk la lp lq lv IQ.out.2)
              clear X0 HL c13
              go_wp2_with fail
              refine HD.out.mono ?_
              rintro e w6 ⟨rfl, hP, kp⟩
              have hE2 := doA_err s.cf.nu G lk la lp lq lv
              unfold anOf
              generalize hA : doA s.cf.nu G lk la lp lq lv = an at *
              generalize hG : doG s.cf.nu G lk la lp lq lv = G' at *
              obtain ⟨E, y, nn, vv⟩ := an
              by_cases hE : E = 0
              · subst hE
                obtain ⟨s', k', _, _⟩ := hP
                have BE := Lib.hid (k'.bel.alloc k'.bel.size (.cells #[.int .i64 0, .bool y, .int .i64 nn, .int .u64 vv] 55))
                clear k' kp HD hE2 hA hG d0 d1 d2 d3 d4 KE
                go_wp2
                go_ret
                exact ⟨rfl, BE.out⟩
              · have hy := hE2 hE
                cases hy
                obtain ⟨s', k', _, es⟩ := hP
                have es := es hE
                subst es
                have ER := Er.mk k' (KE.out.2.row.kp kp (.inr (.inr rfl))) (KE.out.2.qu.kp kp (fun k e => .inr (.inl e))) (KE.out.2.box.kp kp (.inl rfl))
                have ER := ER.keep ((Below.refl _ w6).alloc (Nat.le_refl _) (.cells #[.int .i64 E, .bool false, .int .i64 0, .int .u64 0] 55))
                obtain ⟨t2, c18, hAl⟩ := er_all ER
                rw [NN.out] at hAl
                have HAl := Lib.hid hAl
                have KE := Lib.hid ER
                clear ER hAl k' kp HD hE2 hA hG d0 d1 d2 d3 d4
                go_wp2_with fail
                refine HAl.out.mono ?_
                rintro e w7 ⟨A7, c7, rfl, q7, b7⟩
                have KM := Lib.hid (And.intro (KE.out.keep b7) q7)
                have N9 : Hid (N ≤ 64) := Lib.hid (by rw [← NN.out]; exact KE.out.few)
                have n64 := N9.out
                have l64 := L9.out
                clear q7 b7 HAl c18 KE N9
                go_wp2_with fail
                go_loopw [24] (fun s4 wr => ∃ (i : Nat), i ≤ N ∧ s4 = .int .i64 i ∧ Hid (Er w wr b s' G' w.heap.size (stL lk la lp lq lv) A4 N c4 g cap L ∧ Qu wr A7 N c7 s'.hs)) (fun s4 _ => N - (intOf s4).toNat)
                case atStart => exact ⟨0, Nat.zero_le _, rfl, KM⟩
                case round =>
                  clear KM
                  obtain ⟨i, hi, rfl, KM⟩ := hrel
                  by_cases hlt : i < N
                  · obtain ⟨x, hxi⟩ : ∃ x, s'.hs[i]? = some x := ⟨_, List.getElem?_eq_getElem (by rw [NN.out]; exact hlt)⟩
                    obtain ⟨gq, off, rfl⟩ := qu_spot KM.out.1.qu (by omega)
                    obtain ⟨gr, of2, rfl⟩ := qu_spot KM.out.2 (by omega)
                    have ci := qu_cell KM.out.1.qu (by omega) hxi
                    have cj := qu_cell KM.out.2 (by omega) hxi
                    have h3 : (i : Int) < (N : Int) := by omega
                    have h4 : (0 : Int) ≤ (i : Int) := by omega
                    clear hxi
                    go_wp2
                    go_region
                    all_goals
                      have KN := Lib.hid (And.intro (KM.out.1.keep (below_drew wr)) (KM.out.2.keep (below_drew wr)))
                      clear ci cj
                      go_wp2
                      go_roundw
                      case rel => exact ⟨i + 1, by omega, by go_num, KN⟩
                      case measure => simp [intOf]; omega
                  · have h3 : ¬ ((i : Int) < (N : Int)) := by omega
                    have KE := Lib.hid KM.out.1
                    clear KM
                    generalize wr = wq at *
                    go_wp2_with fail
                    go_loopw [25] (fun s4 wr => ∃ (i : Nat), i ≤ L ∧ s4 = .int .i64 i ∧ Hid (Er w wr b s' G' w.heap.size (stL lk la lp lq lv) A4 N c4 g cap L)) (fun s4 _ => L - (intOf s4).toNat)
                    case atStart => exact ⟨0, Nat.zero_le _, rfl, KE⟩
                    case round =>
                      clear KE
                      obtain ⟨i, hi, rfl, KE⟩ := hrel
                      by_cases hlt : i < L
                      · obtain ⟨x, hx⟩ : ∃ x, s'.ws[i]? = some x := ⟨_, List.getElem?_eq_getElem (by rw [LL.out]; exact hlt)⟩
                        obtain ⟨a2, c13, hld⟩ := er_load KE.out i x (by omega) (by rw [Int.toNat_natCast]; exact hx)
                        have HD := Lib.hid hld
                        have HX := Lib.hid (show (s'.ws.take L)[i]? = some x by rw [List.getElem?_take_of_lt hlt]; exact hx)
                        have h3 : (i : Int) < (L : Int) := by omega
                        have h4 : (0 : Int) ≤ (i : Int) := by omega
                        have h5 := KE.out.row.cap_le
                        clear hld hx KE
                        go_wp2_with fail
                        refine HD.out.mono ?_
                        rintro e w8 ⟨rfl, er⟩
                        have ci := er.row.at_ HX.out
                        have KN := Lib.hid er
                        clear er HD c13 HX
                        go_wp2
                        go_roundw
                        case rel => exact ⟨i + 1, by omega, by go_num, KN⟩
                        case measure => simp [intOf]; omega
                      · have h3 : ¬ ((i : Int) < (L : Int)) := by omega
                        go_wp2
                        go_ret
                        exact ⟨rfl, KE.out.kz.bel⟩
end Go.Proofs.YthmhehehomieiaaGreat

/- The Go function tilthlaw13.CoreErrors returns true for every input, and its arguments read afterwards as they read before: the given statement CoreErrorsSaid, without further conditions. -/
namespace Go.Proofs.YthmhehehomieiaaGreat
open Go.ChangeShapes Go.WideShapes Go.ChangeAt Go.RowKit Go.Deep

set_option maxRecDepth 100000 in
theorem coreErrors_lifted (os : Os) (started : os.Started) (H : Type) (enc : TypeId × Value → H) :
    ReturnsInHanded {} Tryz.checked os 5 .any (Rows.coreErrorsSpec.pre6 enc Tryz.prog Tryz.f5 Rows.coreErrorsRow.domain false) (Rows.coreErrorsSpec.post enc Tryz.prog Tryz.f5 false true false false) := by
  refine returnsInHanded_of_change (C := Tryz.checked) own started (by kernel_rfl) Tryz.func5
    (ChangeSpec.witness6 (enc := enc) (C := Tryz.checked) false ⟨#[], #[.int .u8 0, .int .u8 0, .int .u8 0, .int .u8 0, .slice none 0 0, .agg #[.int .i64 0, .int .i64 0, .int .i64 0, .int .i64 0, .int .u64 0]], []⟩ 8 (by kernel_rfl) (by kernel_rfl) (by kernel_rfl) (by kernel_rfl)) ?_
  intro W base args ds gs before hval0 hW _ _
  have hval : ∀ (j : Nat) t v, Tryz.f5.params[j]? = some t → args[j]? = some v → Value.okWide Tryz.prog W .any base t v := hval0
  have hW0 := hW
  obtain ⟨p, q, hA0, _, _, _, _⟩ := hW
  have hA : DataW.TrodAll enc Tryz.prog W 0 (fun _ => true) true Tryz.f5.params.toList args.toList ds p := hA0
  rw [Tryz.params5] at hA hval
  obtain ⟨v0, vs0, d0, ds0, pl0, ql0, hargs, rfl, rfl, h0, r0⟩ := trodAll_cons hA
  obtain ⟨v1, vs1, d1, ds1, pl1, ql1, rfl, rfl, rfl, h1, r1⟩ := trodAll_cons r0
  obtain ⟨v2, vs2, d2, ds2, pl2, ql2, rfl, rfl, rfl, h2, r2⟩ := trodAll_cons r1
  obtain ⟨v3, vs3, d3, ds3, pl3, ql3, rfl, rfl, rfl, h3, r3⟩ := trodAll_cons r2
  obtain ⟨v4, vs4, d4, ds4, pl4, ql4, rfl, rfl, rfl, h4, r4⟩ := trodAll_cons r3
  obtain ⟨v5, vs5, d5, ds5, pl5, ql5, rfl, rfl, rfl, h5, r5⟩ := trodAll_cons r4
  obtain ⟨rfl, rfl, rfl⟩ := trodAll_nil r5
  obtain rfl : args = #[v0, v1, v2, v3, v4, v5] := by cases args; simp_all
  obtain ⟨x0, rfl, rfl, rfl, wf0⟩ := open_int Tryz.underlying5 (hval 0 5 v0 rfl rfl) h0
  have bd0 : 0 ≤ x0 ∧ x0 ≤ 255 := bounds_int wf0
  obtain ⟨x1, rfl, rfl, rfl, wf1⟩ := open_int Tryz.underlying5 (hval 1 5 v1 rfl rfl) h1
  have bd1 : 0 ≤ x1 ∧ x1 ≤ 255 := bounds_int wf1
  obtain ⟨x2, rfl, rfl, rfl, wf2⟩ := open_int Tryz.underlying5 (hval 2 5 v2 rfl rfl) h2
  have bd2 : 0 ≤ x2 ∧ x2 ≤ 255 := bounds_int wf2
  obtain ⟨x3, rfl, rfl, rfl, wf3⟩ := open_int Tryz.underlying5 (hval 3 5 v3 rfl rfl) h3
  have bd3 : 0 ≤ x3 ∧ x3 ≤ 255 := bounds_int wf3
  obtain ⟨A4, N4, c4, rfl, nc4, cm4, rd4⟩ := open_steps (hval 4 47 v4 rfl rfl) h4
  obtain ⟨k5, a5, b5, c5, y5, rfl, ib5, ic5⟩ := open_step (hval 5 53 v5 rfl rfl) h5
  exact (coreErrors_walk x0 x1 x2 x3 bd0 bd1 bd2 bd3 A4 N4 c4 k5 a5 b5 c5 y5 ic5 W rd4 nc4 cm4).mono fun e W' ⟨he, bel⟩ => ⟨_, he, law_post laidOut (by kernel_rfl) (by kernel_rfl) Tryz.underlying4 rfl
    (fun ds hds => by rw [Tryz.params5] at hds; match ds, hds with | [_, _, _, _, _, _], _ => rfl) hW0 bel⟩

theorem coreErrors_holds : Rows.CoreErrorsSaid :=
  OpenClaim.holds_of_wide 5 Tryz.f5 rfl rfl rfl rfl rfl rfl rfl ⟨rfl, rfl, rfl, rfl, rfl⟩ rfl rfl rfl rfl rfl (by kernel_rfl) Tryz.func5 (by kernel_rfl)
    (of_decide_eq_true (by kernel_rfl)) (by unfold Func.isWrapper; first | (rw [if_pos (by decide +kernel)]; kernel_rfl) | (rw [if_neg (by decide +kernel)]; exact ⟨rfl, rfl⟩))
    (fun os started H enc _ => coreErrors_lifted os started H enc)
#print axioms coreErrors_holds
end Go.Proofs.YthmhehehomieiaaGreat

/- Texts of the layers below, joined: CoW CoX RgB RgC RgD CoY CoZ ArgR Nums StepR CpB RgE RgF RgG MdR RgL RgH RgI RgK RgJ CpG CpH. -/
import Derived.Test.YthmhehehomieiaaGreatJoinC
import Derived.Deep.DeepCutAuto
import Derived.Deep.CutBlock
import Derived.StillTailTactics
import Derived.Deep.Slices
import Derived.Deep.Fields
import Derived.ChangeSame
import Derived.Deep.RegionHeld3
import Derived.Deep.RegionLaw
import Derived.Laws.MakeOwn
import Derived.Deep.AppendLies

/- A core made since some world, which holds a graph, with the caller's blocks beside it. -/
namespace Go.Proofs.YthmhehehomieiaaGreat
open Go.RowKit

/-- Block b is a core made since w0, which holds the graph G; no block of Z is its own; what there was is as it was. -/
structure Kz (w0 w : World) (Z : Nat → Prop) (b : Nat) (s : Co) (G : Gr) : Prop where
  is : ∃ S, Cr w b S s ∧ ∀ k, S k → w0.heap.size ≤ k ∧ ¬ Z k
  rep : Rep s G
  bel : Below w0.heap.size w0 w
  low : ∀ k, Z k → w0.heap.size ≤ k ∧ k < w.heap.size

/-- The same, made so. -/
def Kg (w0 w : World) (Z : Nat → Prop) (b : Nat) (c : Cfg) (G : Gr) : Prop := ∃ s, Kz w0 w Z b s G ∧ s.cf = c

section
variable {w0 w w' : World} {Z Z' : Nat → Prop} {b : Nat} {s s' : Co} {c : Cfg} {G G' : Gr}

theorem Kz.write {T : Nat → Prop} (h : Kz w0 w Z b s G) (f : Frm T w w') (hs : ∀ k, k < w.heap.size → T k → Z k) (hz : ∀ k, Z' k → Z k ∨ (w.heap.size ≤ k ∧ k < w'.heap.size)) : Kz w0 w' Z' b s G := by
  obtain ⟨S, hC, ho⟩ := h.is
  refine ⟨⟨S, hC.frm (T := fun k => T k ∧ k < w.heap.size) ⟨f.os, f.tape, f.output, f.size, fun k hk hn => f.block k hk fun e => hn ⟨e, hk⟩⟩ fun k hk ht => (ho k hk).2 (hs k ht.2 ht.1), fun k hk => ⟨(ho k hk).1, fun hz' => ?_⟩⟩, h.rep, ?_, fun k hk => ?_⟩
  · rcases hz k hz' with e | e
    · exact (ho k hk).2 e
    · have := hC.lt hk; omega
  · refine Below.frm (S := fun k => T k ∧ k < w.heap.size) h.bel ⟨f.os, f.tape, f.output, f.size, fun k hk hn => f.block k hk fun e => hn ⟨e, hk⟩⟩ h.bel.size fun k hk ht => ?_
    have := (h.low k (hs k ht.2 ht.1)).1
    omega
  · rcases hz k hk with e | e
    · exact ⟨(h.low k e).1, Nat.lt_of_lt_of_le (h.low k e).2 f.size⟩
    · exact ⟨Nat.le_trans h.bel.size e.1, e.2⟩
theorem Kz.grow (h : Kz w0 w Z b s G) (f : Below w.heap.size w w') (hz : ∀ k, Z' k → Z k ∨ (w.heap.size ≤ k ∧ k < w'.heap.size)) : Kz w0 w' Z' b s G :=
  h.write (T := fun _ => False) (Frm.of_below f) (fun _ _ e => e.elim) hz
theorem Kz.keep (h : Kz w0 w Z b s G) (f : Below w.heap.size w w') : Kz w0 w' Z b s G := h.grow f fun _ => .inl

theorem Kz.step {S : Nat → Prop} (h : Kz w0 w Z b s G) (ho : ∀ k, S k → w0.heap.size ≤ k ∧ ¬ Z k) (r : CoR w b S s' w') (rep : Rep s' G') : Kz w0 w' Z b s' G' ∧ Kp Z w w' := by
  obtain ⟨S', hC, m⟩ := r
  refine ⟨⟨⟨S', hC, fun k hk => ?_⟩, rep, Below.frm h.bel m.frm h.bel.size fun k hk e => ?_, fun k hk => ⟨(h.low k hk).1, Nat.lt_of_lt_of_le (h.low k hk).2 m.frm.size⟩⟩, m.frm.mono fun k _ hk hz => (ho k hk).2 hz⟩
  · rcases m.at_ k hk with e | e
    · exact ho k e
    · exact ⟨Nat.le_trans h.bel.size e, fun hz => by have := (h.low k hz).2; omega⟩
  · have := (ho k e).1; omega

theorem Kz.act {P : Program} {fn : FuncId} {args : Array Value} {R : Ending → Prop} {E : Int} (h : Kz w0 w Z b s G) (c : ∀ S, Cr w b S s → Calls P fn args w fun e w' => R e ∧ Act13 w b S s E G' w') :
    Calls P fn args w fun e w' => R e ∧ ∃ s', Kz w0 w' Z b s' G' ∧ Kp Z w w' ∧ s'.cf = s.cf ∧ (E ≠ 0 → s' = s) := by
  obtain ⟨S, hC, ho⟩ := h.is
  exact (c S hC).mono fun e w' ⟨r, s', k, q, e1, e2⟩ => ⟨r, s', (h.step ho k q).1, (h.step ho k q).2, e1, e2⟩

/-- A call that leaves the core as it is. -/
theorem Kz.look {P : Program} {fn : FuncId} {args : Array Value} {R : Ending → Prop} (h : Kz w0 w Z b s G) (c : ∀ S, Cr w b S s → Calls P fn args w fun e w' => R e ∧ CoR w b S s w') :
    Calls P fn args w fun e w' => R e ∧ Kz w0 w' Z b s G ∧ Kp Z w w' := by
  obtain ⟨S, hC, ho⟩ := h.is
  exact (c S hC).mono fun e w' ⟨r, k⟩ => ⟨r, h.step ho k h.rep⟩

theorem Kg.keep (h : Kg w0 w Z b c G) (f : Below w.heap.size w w') : Kg w0 w' Z b c G := let ⟨s, k, e⟩ := h; ⟨s, k.keep f, e⟩
theorem Kg.grow (h : Kg w0 w Z b c G) (f : Below w.heap.size w w') (hz : ∀ k, Z' k → Z k ∨ (w.heap.size ≤ k ∧ k < w'.heap.size)) : Kg w0 w' Z' b c G := let ⟨s, k, e⟩ := h; ⟨s, k.grow f hz, e⟩
theorem Kg.write {T : Nat → Prop} (h : Kg w0 w Z b c G) (f : Frm T w w') (hs : ∀ k, k < w.heap.size → T k → Z k) (hz : ∀ k, Z' k → Z k ∨ (w.heap.size ≤ k ∧ k < w'.heap.size)) : Kg w0 w' Z' b c G := let ⟨s, k, e⟩ := h; ⟨s, k.write f hs hz, e⟩
theorem Kg.bel (h : Kg w0 w Z b c G) : Below w0.heap.size w0 w := h.choose_spec.1.bel
theorem Kg.low (h : Kg w0 w Z b c G) : ∀ k, Z k → w0.heap.size ≤ k ∧ k < w.heap.size := h.choose_spec.1.low

theorem Kg.act {P : Program} {fn : FuncId} {args : Array Value} {R : Ending → Prop} {E : Int} {G' : Gr} (h : Kg w0 w Z b c G) (q : ∀ S s, s.cf = c → Cr w b S s → Rep s G → Calls P fn args w fun e w' => R e ∧ Act13 w b S s E G' w') :
    Calls P fn args w fun e w' => R e ∧ Kg w0 w' Z b c G' ∧ Kp Z w w' := by
  obtain ⟨s, k, rfl⟩ := h
  exact (k.act fun S hC => q S s rfl hC k.rep).mono fun e w' ⟨r, s', k', p, e1, _⟩ => ⟨r, ⟨s', k', e1⟩, p⟩
theorem Kg.look {P : Program} {fn : FuncId} {args : Array Value} {R : Ending → Prop} (h : Kg w0 w Z b c G) (q : ∀ S s, s.cf = c → Cr w b S s → Rep s G → Calls P fn args w fun e w' => R e ∧ CoR w b S s w') :
    Calls P fn args w fun e w' => R e ∧ Kg w0 w' Z b c G ∧ Kp Z w w' := by
  obtain ⟨s, k, rfl⟩ := h
  exact (k.look fun S hC => q S s rfl hC k.rep).mono fun e w' ⟨r, k', p⟩ => ⟨r, ⟨s, k', rfl⟩, p⟩

/-- A new core. -/
def Gr.none_ (c : Cfg) : Gr := ⟨[], zeros c.ha, c.lg⟩

theorem cellsP_free (F G : Int) (n : Nat) : cellsP F G (List.replicate n Pg.free) = [] := by
  unfold cellsP
  rw [List.flatMap_eq_nil_iff]
  intro i hi
  rw [List.length_replicate] at hi
  rw [List.getD_eq_getElem?_getD, List.getElem?_replicate, if_pos (by simpa using hi)]
  rfl

theorem rep_fresh (hm : c.May) {pt : Pts} : Rep (Co.fresh c pt) (Gr.none_ c) where
  calm := ⟨rfl, rfl, rfl, rfl, cellsP_free _ _ _⟩
  par := rfl
  hs := by
    show zeros c.ha = (zeros c.ha).map (plc [])
    unfold zeros
    rw [List.map_replicate]
    rfl
  lg := rfl
  use := rfl
  d := rfl
  lay := by
    have e := hm.words
    have := hm.nu0
    refine ⟨fun i n h => (by cases h), fun i n h => (by cases h), ?_⟩
    show 1 + 0 ≤ (List.replicate c.words.toNat (0 : Int)).length
    rw [List.length_replicate]
    unfold Cfg.words
    omega
  hin := fun h hh => by
    obtain rfl := (List.mem_replicate.1 hh).2
    exact ⟨by omega, by omega⟩
  wl := by
    have e := hm.words
    have := hm.nu0
    show ((List.replicate c.words.toNat (0 : Int)).length : Int) = c.words
    rw [List.length_replicate]
    unfold Cfg.words
    omega
  gx := rfl
  ry := rfl
  rn := by
    show (List.replicate _ false).count true = 0
    exact List.count_eq_zero.2 fun h => by cases (List.mem_replicate.1 h).2
  room := by have := hm.nu0; show (0 : Int) ≤ c.nu; omega
  small := fun n h => by cases h

theorem kz_new (hm : c.May) (bel : Below w0.heap.size w0 w) (low : ∀ k, Z k → w0.heap.size ≤ k ∧ k < w.heap.size) :
    Calls Tryz.prog 19 #[c.v] w fun e w' => ∃ b pt, e = .returned (.tuple #[ptr b, .int .i64 0]) ∧ Kz w0 w' Z b (Co.fresh c pt) (Gr.none_ c) ∧ Kp Z w w' :=
  (coNew_yes c w hm).mono fun _ _ ⟨b, S, pt, he, hC, hb, ho⟩ => ⟨b, pt, he, ⟨⟨S, hC, fun k hk => ⟨Nat.le_trans bel.size (ho k hk), fun hz => by have := (low k hz).2; have := ho k hk; omega⟩⟩, rep_fresh hm, below_trans bel hb, fun k hk => ⟨(low k hk).1, Nat.lt_of_lt_of_le (low k hk).2 hb.size⟩⟩, Kp.of_below hb⟩
theorem kg_new (hm : c.May) (bel : Below w0.heap.size w0 w) (low : ∀ k, Z k → w0.heap.size ≤ k ∧ k < w.heap.size) :
    Calls Tryz.prog 19 #[c.v] w fun e w' => ∃ b, e = .returned (.tuple #[ptr b, .int .i64 0]) ∧ Kg w0 w' Z b c (Gr.none_ c) ∧ Kp Z w w' :=
  (kz_new hm bel low).mono fun _ _ ⟨b, _, he, k, p⟩ => ⟨b, he, ⟨_, k, rfl⟩, p⟩

/-! The entries, by a core that was made so. -/

theorem kg_make (h : Kg w0 w Z b c G) (a p q : Int) (q1 : q ≤ 9223372036854775807) :
    Calls Tryz.prog 33 #[ptr b, .int .i64 a, .int .i64 p, .int .i64 q] w fun e w' => e = .returned (.int .i64 (stE c.nu G 1 a p q 0)) ∧ Kg w0 w' Z b c (stG c.nu G 1 a p q 0) ∧ Kp Z w w' :=
  h.act (E := stE c.nu G 1 a p q 0) fun _ _ e hC r => by have := make_rep hC r a p q 0 q1; rwa [e] at this
theorem kg_get (h : Kg w0 w Z b c G) (d a n : Int) :
    Calls Tryz.prog 35 #[ptr b, .int .i64 d, .int .i64 a, .int .i64 n] w fun e w' => e = .returned (.int .i64 (G.change 2 d a n 0).1) ∧ Kg w0 w' Z b c (G.change 2 d a n 0).2 ∧ Kp Z w w' :=
  h.act (E := (G.change 2 d a n 0).1) fun _ _ _ hC r => get_rep hC r d a n 0
theorem kg_set (h : Kg w0 w Z b c G) (a n f : Int) :
    Calls Tryz.prog 41 #[ptr b, .int .i64 a, .int .i64 n, .int .i64 f] w fun e w' => e = .returned (.int .i64 (G.change 3 a n f 0).1) ∧ Kg w0 w' Z b c (G.change 3 a n f 0).2 ∧ Kp Z w w' :=
  h.act (E := (G.change 3 a n f 0).1) fun _ _ _ hC r => set_rep hC r a n f 0
theorem kg_write (h : Kg w0 w Z b c G) (a n v : Int) :
    Calls Tryz.prog 40 #[ptr b, .int .i64 a, .int .i64 n, .int .u64 v] w fun e w' => e = .returned (.int .i64 (G.change 5 a n 0 v).1) ∧ Kg w0 w' Z b c (G.change 5 a n 0 v).2 ∧ Kp Z w w' :=
  h.act (E := (G.change 5 a n 0 v).1) fun _ _ _ hC r => write_rep hC r a n 0 v
theorem kg_clear (h : Kg w0 w Z b c G) (a : Int) :
    Calls Tryz.prog 44 #[ptr b, .int .i64 a] w fun e w' => e = .returned (.int .i64 (G.change 6 a 0 0 0).1) ∧ Kg w0 w' Z b c (G.change 6 a 0 0 0).2 ∧ Kp Z w w' :=
  h.act (E := (G.change 6 a 0 0 0).1) fun _ _ _ hC r => clear_rep hC r a 0 0 0
theorem kg_copy (h : Kg w0 w Z b c G) (d f : Int) :
    Calls Tryz.prog 42 #[ptr b, .int .i64 d, .int .i64 f] w fun e w' => e = .returned (.int .i64 (G.change 7 d f 0 0).1) ∧ Kg w0 w' Z b c (G.change 7 d f 0 0).2 ∧ Kp Z w w' :=
  h.act (E := (G.change 7 d f 0 0).1) fun _ _ _ hC r => coCopy_rep hC r d f 0 0
theorem kg_read (h : Kg w0 w Z b c G) (a n : Int) :
    Calls Tryz.prog 37 #[ptr b, .int .i64 a, .int .i64 n] w fun e w' => e = .returned (.tuple #[.int .u64 (G.ask 4 a n).2.2.2, .int .i64 (G.ask 4 a n).1]) ∧ Kg w0 w' Z b c G ∧ Kp Z w w' :=
  h.look fun _ _ _ hC r => (read_rep hC r a n).mono fun _ _ ⟨h1, _, _, h2⟩ => ⟨h1, h2⟩
theorem kg_shape (h : Kg w0 w Z b c G) (a : Int) :
    Calls Tryz.prog 34 #[ptr b, .int .i64 a] w fun e w' => e = .returned (.tuple #[.int .i64 (G.ask 10 a 0).2.2.1, .int .i64 (G.ask 10 a 0).2.2.2, .int .i64 (G.ask 10 a 0).1]) ∧ Kg w0 w' Z b c G ∧ Kp Z w w' :=
  h.look fun _ _ _ hC r => (shape_rep hC r a 0).mono fun _ _ ⟨h1, _, h2⟩ => ⟨h1, h2⟩
theorem kg_same (h : Kg w0 w Z b c G) (a f : Int) :
    Calls Tryz.prog 43 #[ptr b, .int .i64 a, .int .i64 f] w fun e w' => e = .returned (.tuple #[.bool (G.ask 8 a f).2.1, .int .i64 (G.ask 8 a f).1]) ∧ w = w' := by
  obtain ⟨s, k, _⟩ := h
  obtain ⟨S, hC, _⟩ := k.is
  exact (same_rep hC k.rep a f).mono fun _ _ ⟨h1, _, h2⟩ => ⟨h1, h2⟩
theorem kg_nil (h : Kg w0 w Z b c G) (a : Int) :
    Calls Tryz.prog 36 #[ptr b, .int .i64 a] w fun e w' => e = .returned (.tuple #[.bool (G.ask 9 a 0).2.1, .int .i64 (G.ask 9 a 0).1]) ∧ w = w' := by
  obtain ⟨s, k, _⟩ := h
  obtain ⟨S, hC, _⟩ := k.is
  exact (nil_rep hC k.rep a 0).mono fun _ _ ⟨h1, _, h2⟩ => ⟨h1, h2⟩
theorem kg_stats (h : Kg w0 w Z b c G) :
    Calls Tryz.prog 20 #[ptr b] w fun e w' => e = .returned (stV8 G.ns.length (tot G.ns) 0 0 0 (tot G.ns) 0 (c.ps * c.pz)) ∧ Below w.heap.size w w' := by
  obtain ⟨s, k, rfl⟩ := h
  obtain ⟨S, hC, _⟩ := k.is
  have u := k.rep.calm.used
  have := stats_any hC (by omega) (by omega)
  rw [u, k.rep.calm.left, k.rep.use, k.rep.d, Int.add_zero, Int.sub_zero] at this
  exact this
end
end Go.Proofs.YthmhehehomieiaaGreat

/- The walks of awake and of CoreNone. -/
namespace Go.Proofs.YthmhehehomieiaaGreat
open Go.RowKit

abbrev awC : Cfg := cfgOf 3 40 80 20
def aw0 : Gr := Gr.none_ awC
def aw1 : Gr := stG awC.nu aw0 1 0 1 2 0
def aw2 : Gr := stG awC.nu aw1 1 1 0 1 0
def aw3 : Gr := (aw2.change 3 0 0 1 0).2
def aw4 : Gr := (aw3.change 5 0 1 0 77).2
def aw5 : Gr := (aw4.change 2 2 0 0 0).2
theorem aw_1 : stE awC.nu aw0 1 0 1 2 0 = 0 := by decide
theorem aw_2 : stE awC.nu aw1 1 1 0 1 0 = 0 := by decide
theorem aw_3 : (aw2.change 3 0 0 1 0).1 = 0 := by decide
theorem aw_4 : (aw3.change 5 0 1 0 77).1 = 0 := by decide
theorem aw_5 : (aw4.change 2 2 0 0 0).1 = 0 := by decide
theorem aw_6 : aw5.ask 4 0 1 = (0, false, 0, 77) := by decide
theorem aw_7 : aw5.ask 8 1 2 = (0, true, 0, 0) := by decide
theorem aw_8 : aw5.ask 10 0 0 = (0, false, 1, 2) := by decide
theorem aw_9 : (aw5.change 3 0 1 1 0).1 = 5 := by decide
theorem aw_9' : (aw5.change 3 0 1 1 0).2 = aw5 := rfl
theorem aw_10 : (aw5.change 2 0 3 0 0).1 = 4 := by decide
theorem aw_10' : (aw5.change 2 0 3 0 0).2 = aw5 := rfl
theorem aw_11 : (aw5.change 6 99 0 0 0).1 = 3 := by decide
theorem aw_11' : (aw5.change 6 99 0 0 0).2 = aw5 := rfl
theorem aw_12 : (tot aw5.ns : Int) = 8 := by decide

theorem stat_young (a c d e f y o r : Int) (w : World) : (Instr.field 31 (stV8 a c d e f y o r) 5).run Tryz.prog w = .ok (.int .i64 y) w := by kernel_rfl

set_option maxHeartbeats 8000000 in
set_option maxRecDepth 100000 in
theorem awake13_walk (w : World) : Calls Tryz.prog 18 #[] w fun e w' => e = .returned (.bool true) ∧ Below w.heap.size w w' := by
  have by_ : ∀ n : Int, 0 ≤ n → n ≤ 255 → By n := fun n h0 h1 => ⟨h0, h1⟩
  have HM := Lib.hid (cfgOf_may 3 40 80 20 (by_ _ (by omega) (by omega)) (by_ _ (by omega) (by omega)) (by_ _ (by omega) (by omega)) (by_ _ (by omega) (by omega)))
  have HC := Lib.hid (config_any 3 40 80 20 (by_ _ (by omega) (by omega)) (by_ _ (by omega) (by omega)) (by_ _ (by omega) (by omega)) (by_ _ (by omega) (by omega)) w)
  clear by_
  go_enter Tryz.func18, Tryz.ntmps18
  go_wp2_with fail
  refine HC.out.mono ?_
  rintro e w1 ⟨rfl, b1⟩
  have HN := Lib.hid (kg_new (w0 := w) (Z := noZ) HM.out b1 (fun _ e => e.elim))
  clear b1 HC
  go_wp2_with fail
  refine HN.out.mono ?_
  rintro e w2 ⟨b, rfl, k2, _⟩
  have K2 := Lib.hid (show Kg w w2 noZ b awC aw0 from k2)
  clear k2 HN
  go_wp2_with fail
  have h := kg_make K2.out 0 1 2 (by omega)
  rw [aw_1] at h
  refine h.mono ?_
  rintro e w3 ⟨rfl, k3, _⟩
  have K3 := Lib.hid (show Kg w w3 noZ b awC aw1 from k3)
  clear k3 h K2
  go_wp2_with fail
  have h := kg_make K3.out 1 0 1 (by omega)
  rw [aw_2] at h
  refine h.mono ?_
  rintro e w4 ⟨rfl, k4, _⟩
  have K4 := Lib.hid (show Kg w w4 noZ b awC aw2 from k4)
  clear k4 h K3
  go_wp2_with fail
  have h := kg_set K4.out 0 0 1
  rw [aw_3] at h
  refine h.mono ?_
  rintro e w5 ⟨rfl, k5, _⟩
  have K5 := Lib.hid (show Kg w w5 noZ b awC aw3 from k5)
  clear k5 h K4
  go_wp2_with fail
  have h := kg_write K5.out 0 1 77
  rw [aw_4] at h
  refine h.mono ?_
  rintro e w6 ⟨rfl, k6, _⟩
  have K6 := Lib.hid (show Kg w w6 noZ b awC aw4 from k6)
  clear k6 h K5
  go_wp2_with fail
  have h := kg_get K6.out 2 0 0
  rw [aw_5] at h
  refine h.mono ?_
  rintro e w7 ⟨rfl, k7, _⟩
  have K7 := Lib.hid (show Kg w w7 noZ b awC aw5 from k7)
  clear k7 h K6
  go_wp2_with fail
  have h := kg_read K7.out 0 1
  rw [aw_6] at h
  refine h.mono ?_
  rintro e w8 ⟨rfl, k8, _⟩
  have K8 := Lib.hid k8
  clear k8 h K7
  go_wp2_with fail
  have h := kg_same K8.out 1 2
  rw [aw_7] at h
  refine h.mono ?_
  rintro e w9 ⟨rfl, rfl⟩
  clear h
  go_wp2_with fail
  have h := kg_shape K8.out 0
  rw [aw_8] at h
  refine h.mono ?_
  rintro e w10 ⟨rfl, k10, _⟩
  have K10 := Lib.hid k10
  clear k10 h K8
  go_wp2_with fail
  have h := kg_set K10.out 0 1 1
  rw [aw_9, aw_9'] at h
  refine h.mono ?_
  rintro e w11 ⟨rfl, k11, _⟩
  have K11 := Lib.hid k11
  clear k11 h K10
  go_wp2_with fail
  have h := kg_get K11.out 0 3 0
  rw [aw_10, aw_10'] at h
  refine h.mono ?_
  rintro e w12 ⟨rfl, k12, _⟩
  have K12 := Lib.hid k12
  clear k12 h K11
  go_wp2_with fail
  have h := kg_clear K12.out 99
  rw [aw_11, aw_11'] at h
  refine h.mono ?_
  rintro e w13 ⟨rfl, k13, _⟩
  have K13 := Lib.hid k13
  clear k13 h K12
  go_wp2_with fail
  have h := kg_stats K13.out
  rw [aw_12] at h
  generalize (aw5.ns.length : Int) = p at h
  generalize awC.ps * awC.pz = q at h
  refine h.mono ?_
  rintro e w14 ⟨rfl, b14⟩
  have B := Lib.hid (below_trans K13.out.bel b14)
  clear b14 h K13
  have hst := stat_young p 8 0 0 0 8 0 q w14
  go_wp2
  go_ret
  exact ⟨rfl, B.out⟩
end Go.Proofs.YthmhehehomieiaaGreat

/- Contracts of the document's graph: has, wrong, New. -/
namespace Go.Proofs.YthmhehehomieiaaGreat
open Go.RowKit

section
variable {w : World} {g : Nat} {S : Nat → Prop} {G : Gr}

/-- A handle that there is, and what it holds. -/
theorem Rg.at_ (h : Rg w g S G) {a : Int} (ha : G.has a = true) : ∃ (i : Nat) (x : Int), a = i ∧ i < G.hs.length ∧ G.hs[i]? = some x ∧ G.held a = x ∧ 0 ≤ x ∧ x ≤ G.ns.length := by
  obtain ⟨vN, hA, hc, nd, hi, e, rfl⟩ := h
  unfold Gr.has at ha
  simp at ha
  obtain ⟨i, rfl⟩ : ∃ i : Nat, a = i := ⟨a.toNat, by omega⟩
  have hl : i < G.hs.length := by omega
  have hx := List.getElem?_eq_getElem hl
  have hin := hi.hin _ (List.mem_of_getElem? hx)
  refine ⟨i, _, rfl, hl, hx, ?_, hin.1, ?_⟩
  · unfold Gr.held
    rw [Int.toNat_natCast, List.getD_eq_getElem?_getD, hx]; rfl
  · rw [e, List.length_map]; exact hin.2
end

set_option maxHeartbeats 1000000 in
theorem rgHas_any (w : World) (g : Nat) (S : Nat → Prop) (G : Gr) (h : Int) (r : Rg w g S G) :
    Calls Tryz.prog 73 #[.pointer (some ⟨g, 0, none⟩), .int .i64 h] w fun e w' => e = .returned (.bool (G.has h)) ∧ w = w' := by
  obtain ⟨vN, hA, hc, nd, hi, _, _⟩ := r
  have c1 : w.cell? ⟨g, 1, none⟩ = some (.slice hA G.hs.length hc) := hi.blk.cell 1
  clear hi
  unfold Gr.has
  generalize G.hs.length = n at c1 ⊢
  by_cases h0 : 0 ≤ h
  · have d0 : decide (0 ≤ h) = true := decide_eq_true h0
    go_enter Tryz.func73, Tryz.ntmps73
    go_wp2
    all_goals
      go_ret
      exact ⟨by first | rfl | exact ret_bool (by simp [h0]) | exact ret_bool (by simp; omega), rfl⟩
  · have d0 : decide (0 ≤ h) = false := decide_eq_false h0
    go_enter Tryz.func73, Tryz.ntmps73
    go_wp2
    all_goals
      go_ret
      exact ⟨by first | rfl | exact ret_bool (by simp [h0]) | exact ret_bool (by simp; omega), rfl⟩

set_option maxHeartbeats 1000000 in
theorem rgWrong_any (w : World) (g : Nat) (S : Nat → Prop) (G : Gr) (h : Int) (r : Rg w g S G) :
    Calls Tryz.prog 72 #[.pointer (some ⟨g, 0, none⟩), .int .i64 h] w fun e w' => e = .returned (.int .i64 (G.wrong h)) ∧ w = w' := by
  have HH := Lib.hid (rgHas_any w g S G h r)
  cases hb : G.has h
  · have HW := Lib.hid (show G.wrong h = 3 from by simp [Gr.wrong, hb])
    rw [hb] at HH
    clear r hb
    go_enter Tryz.func72, Tryz.ntmps72
    go_wp2_with fail
    refine HH.out.mono ?_
    rintro e w1 ⟨rfl, rfl⟩
    go_wp2
    go_ret
    exact ⟨ret_int HW.out.symm, rfl⟩
  · obtain ⟨i, x, rfl, hl, hx, hv, x0, x1⟩ := r.at_ hb
    have HW := Lib.hid (show G.wrong i = if x = 0 then 4 else 0 from by simp [Gr.wrong, hb, hv])
    obtain ⟨vN, hA, hc, nd, hi, _, _⟩ := r
    have c1 : w.cell? ⟨g, 1, none⟩ = some (.slice hA G.hs.length hc) := hi.blk.cell 1
    obtain ⟨q, off, rfl, _, hcx, _⟩ := hi.hrow.at_ (by omega)
    have cx := hcx i x hx
    have hf := hi.hfew
    rw [hb] at HH
    clear hi hcx hv hx hb
    generalize G.hs.length = n at c1 hl hf ⊢
    by_cases z : x = 0
    · subst z
      rw [if_pos rfl] at HW
      go_enter Tryz.func72, Tryz.ntmps72
      go_wp2_with fail
      refine HH.out.mono ?_
      rintro e w1 ⟨rfl, rfl⟩
      go_wp2
      go_ret
      exact ⟨ret_int HW.out.symm, rfl⟩
    · rw [if_neg z] at HW
      go_enter Tryz.func72, Tryz.ntmps72
      go_wp2_with fail
      refine HH.out.mono ?_
      rintro e w1 ⟨rfl, rfl⟩
      go_wp2
      go_ret
      exact ⟨ret_int HW.out.symm, rfl⟩

theorem info_node : (Tryz.prog.info? 120).map (fun i => (i.zero, i.size, i.bytes)) = some (some (.agg #[.slice none 0 0, .slice none 0 0]), 2, 48) := by kernel_rfl

theorem run_make_node (w : World) :
    (Instr.makeSlice 115 (.int .i64 1) (.int .i64 1)).run Tryz.prog w = .ok (.slice (some ⟨w.heap.size, 0, none⟩) 1 1) (w.alloc (.cells #[.slice none 0 0, .slice none 0 0] 120)) := by
  obtain ⟨i, hi, hz, hs, hb⟩ := info_parts info_node
  have h := run_make (P := Tryz.prog) w 115 120 i _ Tryz.underlying115 hi hz .i64 .i64 1 1 (by decide) (Int.le_refl _) (by rw [hb]; decide) (by decide)
  rw [hs] at h
  have e : madeCells (Value.agg #[.slice none 0 0, .slice none 0 0]).cells (Int.toNat 1 * 2) = #[.slice none 0 0, .slice none 0 0] := by
    apply Array.ext
    · simp [madeCells]
    · intro i h1 h2
      have hi : i < 2 := by simpa using h2
      match i, hi with
      | 0, _ => simp [madeCells, Value.cells]
      | 1, _ => simp [madeCells, Value.cells]
  rw [e] at h
  exact h

/-- How many handles there are. -/
def nhI (h : Int) : Nat := (min (max h 0) 64).toNat

/-- A graph that was just made. -/
def Gr.new (h l : Int) : Gr := ⟨[], List.replicate (nhI h) 0, cutI l 0 64⟩

theorem rep_snoc (i : Nat) : List.replicate i (0 : Int) ++ [0] = List.replicate (i + 1) 0 := by
  rw [List.replicate_succ']

theorem IsG.setHs {w : World} {g : Nat} {vN : Value} {hA hA' : Option Addr} {hc hc' : Nat} {nd : List Nd} {hs hs' : List Int} {lg : Int} (h : IsG w g vN hA hc nd hs lg) {w' : World} (gr : Grw hA hA' w w') (q : Qu w' hA' hs'.length hc' hs')
    (hin : ∀ x ∈ hs', 0 ≤ x ∧ x ≤ nd.length) (hf : hs'.length ≤ 64) :
    IsG (w'.setCell ⟨g, 1, none⟩ (.slice hA' hs'.length hc')) g vN hA' hc' nd hs' lg ∧ Mv (gOwn g vN hA nd) (gOwn g vN hA' nd) w (w'.setCell ⟨g, 1, none⟩ (.slice hA' hs'.length hc')) := by
  have no : ∀ {k : Nat} {cs : Array Value} {ty : TypeId}, Blk w k cs ty → ty ≠ 3 → blkOf hA ≠ some k := by
    intro k cs ty hk n1 e
    rcases h.hrow.lies with ⟨rfl, _⟩ | ⟨g', off, cs', rfl, hb', _⟩
    · cases e
    · cases e
      exact Blk.ne_ hk hb' n1 rfl
  have kb := h.blk.frm gr.frm (no h.blk (by decide))
  have fs : Frm (fun k => k = g) w' (w'.setCell ⟨g, 1, none⟩ (.slice hA' hs'.length hc')) := Frm.setCell (S := fun k => k = g) (Frm.refl _ _) (p := ⟨g, 1, none⟩) (fun _ => rfl) _
  have gq : ∀ k, blkOf hA' = some k → k ≠ g := by
    rintro k e rfl
    rcases q.lies with ⟨rfl, _⟩ | ⟨g', off, cs', rfl, hb', _⟩
    · cases e
    · cases e
      exact Blk.ne_ kb hb' (by decide) rfl
  obtain ⟨nb, nc, cur, en, hnb, _⟩ := h.row
  have nr : w'.ownsRow 0 120 2 vN (nd.length + 1) (ndV nd) := ownsRow_frm h.nrow gr.frm (by
    intro j e; rw [en] at e; cases e; exact no hnb (by decide))
  have hap' : ∀ x ∈ nd, blkOf hA' ≠ some x.pb := by
    intro x hx e
    rcases gr.at_ _ e with e1 | e1
    · exact h.hap x hx e1
    · have := (h.ptr x hx).lt; omega
  refine ⟨{ blk := kb.set_ 1 _, hrow := q.frm fs gq, nrow := ownsRow_frm nr fs ?_, ptr := ?_, sca := ?_, hap := hap', nap := h.nap, hin := hin, pin := h.pin, few := h.few, hfew := hf, lg0 := h.lg0, lg1 := h.lg1, size := h.size }, ?_, ?_⟩
  · intro j e; rw [en] at e; cases e
    exact fun e => Blk.ne_ (hnb.frm gr.frm (no hnb (by decide))) kb (by decide) e
  · intro x hx
    have k1 := (h.ptr x hx).frm gr.frm (h.hap x hx)
    exact k1.frm fs fun e => Blk.ne_ k1 kb (by decide) e
  · intro x hx
    have k1 := (h.sca x hx).frm gr.frm (no (h.sca x hx) (by decide))
    exact k1.frm fs fun e => Blk.ne_ k1 kb (by decide) e
  · refine Frm.setCell (p := ⟨g, 1, none⟩) (gr.frm.mono fun i _ e => .inr (.inr (.inl e))) (fun _ => .inl rfl) _
  · rintro k (rfl | e | e | e)
    · exact .inl (.inl rfl)
    · exact .inl (.inr (.inl e))
    · rcases gr.at_ k e with e | e
      · exact .inl (.inr (.inr (.inl e)))
      · exact .inr e
    · exact .inl (.inr (.inr (.inr e)))

theorem IsG.four {w : World} {g : Nat} {vN : Value} {hA : Option Addr} {hc : Nat} {nd : List Nd} {hs : List Int} {lg : Int} (h : IsG w g vN hA hc nd hs lg) :
    w.cell? ⟨g, 0, none⟩ = some vN ∧ w.cell? ⟨g, 1, none⟩ = some (.slice hA hs.length hc) ∧ w.cell? ⟨g, 2, none⟩ = some (.int .i64 lg) ∧ ∀ i, w.frozen? ⟨g, i, none⟩ = false := ⟨h.blk.cell 0, h.blk.cell 1, h.blk.cell 2, h.blk.frozen⟩

/-- Where New stands behind i handles. -/
def NewR (w : World) (g : Nat) (L : Int) (i : Nat) (w' : World) : Prop := ∃ nb hA hc, IsG w' g (.slice (some ⟨nb, 0, none⟩) 1 1) hA hc [] (List.replicate i 0) L ∧ (∀ k, gOwn g (.slice (some ⟨nb, 0, none⟩) 1 1) hA [] k → w.heap.size ≤ k) ∧ Below w.heap.size w w'

theorem newR_start (w : World) (L : Int) (h0 : 0 ≤ L) (h1 : L ≤ 64) (w' : World) (g : Nat)
    (hb : Blk w' g #[.slice (some ⟨w.heap.size, 0, none⟩) 1 1, .slice none 0 0, .int .i64 L] 117) (hn : Blk w' w.heap.size #[.slice none 0 0, .slice none 0 0] 120) (gw : w.heap.size ≤ g) (bel : Below w.heap.size w w') : NewR w g L 0 w' := by
  refine ⟨w.heap.size, none, 0, ⟨hb, Qu.nil _, ⟨rfl, .inr ⟨w.heap.size, 1, _, rfl, Nat.zero_le _, hn, Nat.le_refl _, by decide, rfl, rfl⟩⟩, by simp, by simp, by simp, .nil, by simp, by simp, by simp, by simp, h0, h1, by simp⟩, ?_, bel⟩
  rintro k (rfl | e | e | ⟨x, hx, _⟩)
  · exact gw
  · cases e; exact Nat.le_refl _
  · cases e
  · cases hx

theorem newR_first (w : World) (L : Int) (h0 : 0 ≤ L) (h1 : L ≤ 64) :
    NewR w (w.heap.size + 1) L 0 ((w.alloc (.cells #[.slice none 0 0, .slice none 0 0] 120)).alloc (.cells #[.slice (some ⟨w.heap.size, 0, none⟩) 1 1, .slice none 0 0, .int .i64 L] 117)) := by
  have b1 := Blk.new (w.alloc (.cells #[.slice none 0 0, .slice none 0 0] 120)) #[.slice (some ⟨w.heap.size, 0, none⟩) 1 1, .slice none 0 0, .int .i64 L] 117
  rw [show (w.alloc (.cells #[.slice none 0 0, .slice none 0 0] 120)).heap.size = w.heap.size + 1 by simp] at b1
  exact newR_start w L h0 h1 _ _ b1 ((Blk.new w _ _).alloc _) (by omega) (((Below.refl _ _).alloc (Nat.le_refl _) _).alloc (by simp) _)

/-- One more handle. -/
theorem NewR.more {w w1 w2 : World} {g : Nat} {L : Int} {i hc hc' nb : Nat} {hA hA' : Option Addr} (h : IsG w1 g (.slice (some ⟨nb, 0, none⟩) 1 1) hA hc [] (List.replicate i 0) L) (low : ∀ k, gOwn g (.slice (some ⟨nb, 0, none⟩) 1 1) hA [] k → w.heap.size ≤ k)
    (bel : Below w.heap.size w w1) (gr : Grw hA hA' w1 w2) (q : Qu w2 hA' (i + 1) hc' (List.replicate i 0 ++ [0])) (hi : i < 64) : NewR w g L (i + 1) (w2.setCell ⟨g, 1, none⟩ (.slice hA' (i + 1) hc')) := by
  rw [rep_snoc] at q
  have hl : (List.replicate (i + 1) (0 : Int)).length = i + 1 := List.length_replicate
  have q' : Qu w2 hA' (List.replicate (i + 1) (0 : Int)).length hc' (List.replicate (i + 1) 0) := by rw [hl]; exact q
  obtain ⟨h1, mv⟩ := h.setHs gr q' (fun x hx => by rw [List.eq_of_mem_replicate hx]; simp) (by rw [hl]; omega)
  rw [hl] at h1 mv
  refine ⟨nb, hA', hc', h1, fun k hk => ?_, Below.frm bel mv.frm bel.size fun k hk e => ?_⟩
  · rcases mv.at_ k hk with e | e
    · exact low k e
    · exact Nat.le_trans bel.size e
  · have := low k e; omega

set_option maxHeartbeats 4000000 in
theorem rgNew_any (hn l : Int) (w : World) :
    Calls Tryz.prog 25 #[.int .i64 hn, .int .i64 l] w fun e w' => ∃ g, e = .returned (.pointer (some ⟨g, 0, none⟩)) ∧ ∃ S, Rg w' g S (Gr.new hn l) ∧ Below w.heap.size w w' ∧ ∀ k, S k → w.heap.size ≤ k := by
  have hmk := run_make_node
  obtain ⟨n, hnn⟩ : ∃ n, nhI hn = n := ⟨_, rfl⟩
  have n1 : (n : Int) = min (max hn 0) 64 := by rw [← hnn]; unfold nhI; omega
  obtain ⟨L, hL⟩ : ∃ L, cutI l 0 64 = L := ⟨_, rfl⟩
  have L0 : 0 ≤ L := by rw [← hL]; exact (cutI_in (by decide)).1
  have L1 : L ≤ 64 := by rw [← hL]; exact (cutI_in (by decide)).2
  have eG : Gr.new hn l = ⟨[], List.replicate n 0, L⟩ := by unfold Gr.new; rw [hnn, hL]
  rw [eG]
  have HZ := Lib.hid (newR_first w L L0 L1)
  have hN := Lib.hid n1
  clear hnn eG n1
  have hs : (l < 0 ∧ L = 0) ∨ (64 < l ∧ L = 64) ∨ (0 ≤ l ∧ l ≤ 64 ∧ L = l) := by
    rw [← hL]; unfold cutI
    by_cases h0 : l < 0
    · exact .inl ⟨h0, if_pos h0⟩
    · by_cases h1 : 64 < l
      · exact .inr (.inl ⟨h1, by rw [if_neg h0, if_pos h1]⟩)
      · exact .inr (.inr ⟨by omega, by omega, by rw [if_neg h0, if_neg h1]⟩)
  clear hL
  rcases hs with ⟨h0, rfl⟩ | ⟨h0, rfl⟩ | ⟨h0, h1, rfl⟩
  all_goals
    go_enter Tryz.func25, Tryz.ntmps25
    go_wp2_with fail
    clear hmk
    go_loopw [6] (fun s wr => ∃ i : Nat, i ≤ n ∧ s = .int .i64 i ∧ Hid (NewR w (w.heap.size + 1) _ i wr)) (fun s _ => n - (intOf s).toNat)
    case atStart => exact ⟨0, Nat.zero_le _, rfl, HZ⟩
    case round =>
      clear HZ
      obtain ⟨i, hi, rfl, HR⟩ := hrel
      generalize w.heap.size + 1 = g at *
      by_cases hlt : i < n
      · have i1 : (i : Int) < hn := by have := hN.out; omega
        have i2 : (i : Int) < 64 := by have := hN.out; omega
        obtain ⟨nb, hA, hc, hg, low, bel⟩ := HR.out
        obtain ⟨c0, c1, c2, cf⟩ := hg.four
        rw [List.length_replicate] at c1
        have hl := hg.blk.lt
        have al : Below wr.heap.size wr (wr.alloc (.cells #[.int .i64 0] 3)) := (Below.refl _ _).alloc (Nat.le_refl _) _
        have H2 := Lib.hid (And.intro (hg.keep al) (And.intro low (below_trans bel al)))
        have Q2 := Lib.hid (show Qu (wr.alloc (.cells #[.int .i64 0] 3)) hA i hc (List.replicate i 0) from by have := (hg.keep al).hrow; rwa [List.length_replicate] at this)
        have E2 := Lib.hid (show (wr.alloc (.cells #[.int .i64 0] 3)).cell? ⟨wr.heap.size, 0, none⟩ = some (.int .i64 0) from (Blk.new wr #[.int .i64 0] 3).cell 0)
        clear hg low bel c0 c2 al HR
        go_wp2_with (first
          | (at_builtin; (refine wpList_append_qu _ rfl _ _ rfl Q2.out (by omega) 0 ⟨wr.heap.size, 0, none⟩ 1 rfl rfl E2.out ?_))
          | fail)
        intro A' c' w2 q gr
        have kb := H2.out.1.blk.frm gr.frm (fun e => by
          rcases H2.out.1.hrow.lies with ⟨rfl, _⟩ | ⟨g', off, cs', rfl, hb', _⟩
          · cases e
          · cases e
            exact Blk.ne_ H2.out.1.blk hb' (by decide) rfl)
        have cf2 : w2.frozen? ⟨g, 1, none⟩ = false := kb.frozen 1
        have ex2 : w2.cell? ⟨g, 1, none⟩ = some (.slice hA (List.replicate i (0 : Int)).length hc) := kb.cell 1
        have HN := Lib.hid (NewR.more H2.out.1 H2.out.2.1 H2.out.2.2 gr q (by omega))
        clear kb q gr H2 Q2 E2 c1 cf
        go_wp2
        go_roundw
        case rel => exact ⟨i + 1, by omega, by go_num, HN⟩
        case measure => simp [intOf]; omega
      · obtain rfl : n = i := by omega
        have HE := Lib.hid (show ∃ S, Rg wr g S ⟨[], List.replicate n 0, _⟩ ∧ Below w.heap.size w wr ∧ ∀ k, S k → w.heap.size ≤ k from by
          obtain ⟨nb, hA, hc, hg, low, bel⟩ := HR.out
          exact ⟨_, ⟨_, _, _, [], hg, rfl, rfl⟩, bel, low⟩)
        have hs : ¬ ((n : Int) < hn ∧ (n : Int) < 64) := by have := hN.out; omega
        clear HR
        by_cases i1 : (n : Int) < hn
        · have i2 : ¬ (n : Int) < 64 := fun e => hs ⟨i1, e⟩
          go_wp2
          go_ret
          exact ⟨_, rfl, HE.out⟩
        · go_wp2
          go_ret
          exact ⟨_, rfl, HE.out⟩
end Go.Proofs.YthmhehehomieiaaGreat

/- The document's graph: how it turns in memory where a handle, a reference or a scalar is set, or a node is added. -/
namespace Go.Proofs.YthmhehehomieiaaGreat
open Go.RowKit

section
variable {w : World} {g : Nat} {vN : Value} {hA : Option Addr} {hc : Nat} {nd : List Nd} {hs : List Int} {lg : Int}

theorem IsG.hNe (h : IsG w g vN hA hc nd hs lg) {k : Nat} {cs : Array Value} {ty : TypeId} (hk : Blk w k cs ty) (n1 : ty ≠ 3) : blkOf hA ≠ some k := by
  intro e
  rcases h.hrow.lies with ⟨rfl, _⟩ | ⟨g', off, cs', rfl, hb', _⟩
  · cases e
  · cases e
    exact Blk.ne_ hk hb' n1 rfl

/-- A handle holds something else. -/
theorem IsG.hold {q off : Nat} (h : IsG w g vN (some ⟨q, off, none⟩) hc nd hs lg) (i : Nat) (x : Int) (x0 : 0 ≤ x) (x1 : x ≤ nd.length) :
    IsG (w.setCell ⟨q, off + i, none⟩ (.int .i64 x)) g vN (some ⟨q, off, none⟩) hc nd (hs.set i x) lg ∧ Mv (gOwn g vN (some ⟨q, off, none⟩) nd) (gOwn g vN (some ⟨q, off, none⟩) nd) w (w.setCell ⟨q, off + i, none⟩ (.int .i64 x)) := by
  have fs : Frm (fun k => k = q) w (w.setCell ⟨q, off + i, none⟩ (.int .i64 x)) := Frm.setCell (S := fun k => k = q) (Frm.refl _ _) (p := ⟨q, off + i, none⟩) (fun _ => rfl) _
  have hl : (hs.set i x).length = hs.length := List.length_set
  obtain ⟨nb, nc, cur, en, hnb, _⟩ := h.row
  refine ⟨{ h with blk := ?_, hrow := ?_, nrow := ownsRow_frm h.nrow fs ?_, ptr := ?_, sca := ?_, hin := ?_, hfew := by rw [hl]; exact h.hfew }, fs.mono fun k _ e => .inr (.inr (.inl (by rw [e]; rfl))), fun k e => .inl e⟩
  · rw [hl]; exact h.blk.frm fs fun e => h.hNe h.blk (by decide) (by rw [e]; rfl)
  · rw [hl]; exact h.hrow.put i x
  · intro j e; rw [en] at e; cases e
    intro (e : nb = q)
    exact h.hNe hnb (by decide) (by rw [e]; rfl)
  · exact fun y hy => (h.ptr y hy).frm fs fun e => h.hap y hy (by rw [e]; rfl)
  · exact fun y hy => (h.sca y hy).frm fs fun e => h.hNe (h.sca y hy) (by decide) (by rw [e]; rfl)
  · intro y hy
    rcases List.mem_or_eq_of_mem_set hy with hy | rfl
    · exact h.hin y hy
    · exact ⟨x0, x1⟩

theorem nd_set {nd : List Nd} {i : Nat} {x y : Nd} (_ : nd[i]? = some x) (P : Nd → Prop) (hp : ∀ z ∈ nd, P z) (hy : P y) : ∀ z ∈ nd.set i y, P z := by
  intro z hz
  rcases List.mem_or_eq_of_mem_set hz with hz | rfl
  · exact hp z hz
  · exact hy

theorem pair_set {nd : List Nd} {i : Nat} {x y : Nd} (h : nd[i]? = some x) (e1 : y.pb = x.pb) (e2 : y.sb = x.sb) (hp : nd.Pairwise fun x y => x.pb ≠ y.pb ∧ x.sb ≠ y.sb) : (nd.set i y).Pairwise fun x y => x.pb ≠ y.pb ∧ x.sb ≠ y.sb := by
  rw [List.pairwise_iff_getElem] at hp ⊢
  intro a b ha hb hab
  rw [List.length_set] at ha hb
  obtain ⟨_, hi⟩ := List.getElem?_eq_some_iff.1 h
  have := hp a b ha hb hab
  rw [List.getElem_set, List.getElem_set]
  by_cases h1 : i = a
  · subst h1
    rw [if_pos rfl, if_neg (by omega), e1, e2, ← hi]; exact this
  · by_cases h2 : i = b
    · subst h2
      rw [if_neg h1, if_pos rfl, e1, e2, ← hi]; exact this
    · rw [if_neg h1, if_neg h2]; exact this

theorem other_blk {i : Nat} {x : Nd} (hx : nd[i]? = some x) (hp : nd.Pairwise fun x y => x.pb ≠ y.pb ∧ x.sb ≠ y.sb) {j : Nat} {z : Nd} (hz : nd[j]? = some z) (hj : i ≠ j) : z.pb ≠ x.pb ∧ z.sb ≠ x.sb := by
  rw [List.pairwise_iff_getElem] at hp
  obtain ⟨hi, rfl⟩ := List.getElem?_eq_some_iff.1 hx
  obtain ⟨hj', rfl⟩ := List.getElem?_eq_some_iff.1 hz
  rcases Nat.lt_or_gt_of_ne hj with hlt | hlt
  · have := hp i j hi hj' hlt; exact ⟨fun e => this.1 e.symm, fun e => this.2 e.symm⟩
  · exact hp j i hj' hi hlt

theorem gOwn_set {i : Nat} {x y : Nd} (hx : nd[i]? = some x) (e1 : y.pb = x.pb) (e2 : y.sb = x.sb) {k : Nat} : gOwn g vN hA (nd.set i y) k → gOwn g vN hA nd k := by
  rintro (e | e | e | ⟨z, hz, e⟩)
  · exact .inl e
  · exact .inr (.inl e)
  · exact .inr (.inr (.inl e))
  · rcases List.mem_or_eq_of_mem_set hz with hz | rfl
    · exact .inr (.inr (.inr ⟨z, hz, e⟩))
    · exact .inr (.inr (.inr ⟨x, List.mem_of_getElem? hx, by rw [← e1, ← e2]; exact e⟩))

theorem ints_set (ys : List Int) (k : Nat) (v : Int) : (ints ys).toArray.setIfInBounds k (.int .i64 v) = (ints (ys.set k v)).toArray := by apply Array.ext'; simp [ints]
theorem wordsU_set (ys : List Int) (k : Nat) (v : Int) : (wordsU ys).toArray.setIfInBounds k (.int .u64 v) = (wordsU (ys.set k v)).toArray := by apply Array.ext'; simp [wordsU]

/-- A node refers to something else. -/
theorem IsG.refer {i : Nat} {x : Nd} (h : IsG w g vN hA hc nd hs lg) (hx : nd[i]? = some x) (k : Nat) (v : Int) (v0 : 0 ≤ v) (v1 : v ≤ nd.length) :
    IsG (w.setCell ⟨x.pb, k, none⟩ (.int .i64 v)) g vN hA hc (nd.set i ⟨x.ps.set k v, x.ss, x.pb, x.sb⟩) hs lg ∧ Mv (gOwn g vN hA nd) (gOwn g vN hA (nd.set i ⟨x.ps.set k v, x.ss, x.pb, x.sb⟩)) w (w.setCell ⟨x.pb, k, none⟩ (.int .i64 v)) := by
  have fs : Frm (fun j => j = x.pb) w (w.setCell ⟨x.pb, k, none⟩ (.int .i64 v)) := Frm.setCell (S := fun j => j = x.pb) (Frm.refl _ _) (p := ⟨x.pb, k, none⟩) (fun _ => rfl) _
  have hm := List.mem_of_getElem? hx
  obtain ⟨nb, nc, cur, en, hnb, _⟩ := h.row
  have bx := h.ptr x hm
  have hl : (nd.set i ⟨x.ps.set k v, x.ss, x.pb, x.sb⟩).length = nd.length := List.length_set
  refine ⟨{ blk := h.blk.frm fs (fun e => Blk.ne_ h.blk bx (by decide) e), hrow := h.hrow.frm fs (fun j hj e => h.hap x hm (by rw [hj, e])), nrow := ?_, ptr := ?_, sca := ?_, hap := nd_set hx _ h.hap (h.hap x hm), nap := (pair_set hx rfl rfl h.nap), hin := (by rw [hl]; exact h.hin), pin := ?_, few := (by rw [hl]; exact h.few), hfew := h.hfew, lg0 := h.lg0, lg1 := h.lg1, size := nd_set hx _ h.size (by rw [List.length_set]; exact h.size x hm) }, ?_, fun j e => .inl (gOwn_set (y := ⟨x.ps.set k v, x.ss, x.pb, x.sb⟩) hx rfl rfl e)⟩
  · rw [hl, ndV_set nd i x _ hx (by simp [Nd.vs])]
    refine ownsRow_frm h.nrow fs ?_
    intro j e; rw [en] at e; cases e
    exact fun e => Blk.ne_ hnb bx (by decide) e
  · intro z hz
    rw [List.mem_iff_getElem?] at hz
    obtain ⟨j, hj⟩ := hz
    by_cases e : i = j
    · subst e
      have hi := (List.getElem?_eq_some_iff.1 hx).1
      rw [List.getElem?_set_self hi] at hj
      cases hj
      have := bx.set_ k (.int .i64 v)
      rw [ints_set] at this
      exact this
    · rw [List.getElem?_set_ne e] at hj
      exact (h.ptr z (List.mem_of_getElem? hj)).frm fs (other_blk hx h.nap hj e).1
  · refine nd_set hx (fun z => Blk (w.setCell ⟨x.pb, k, none⟩ (.int .i64 v)) z.sb (wordsU z.ss).toArray 51) (fun z hz => (h.sca z hz).frm fs fun e => Blk.ne_ (h.sca z hz) bx (by decide) e) ((h.sca x hm).frm fs fun e => Blk.ne_ (h.sca x hm) bx (by decide) e)
  · rw [hl]
    refine nd_set hx (fun z => ∀ q ∈ z.ps, 0 ≤ q ∧ q ≤ nd.length) h.pin fun q hq => ?_
    rcases List.mem_or_eq_of_mem_set hq with hq | rfl
    · exact h.pin x hm q hq
    · exact ⟨v0, v1⟩
  · exact fs.mono fun j _ e => .inr (.inr (.inr ⟨x, hm, .inl e⟩))

/-- A node has another scalar. -/
theorem IsG.write {i : Nat} {x : Nd} (h : IsG w g vN hA hc nd hs lg) (hx : nd[i]? = some x) (k : Nat) (v : Int) :
    IsG (w.setCell ⟨x.sb, k, none⟩ (.int .u64 v)) g vN hA hc (nd.set i ⟨x.ps, x.ss.set k v, x.pb, x.sb⟩) hs lg ∧ Mv (gOwn g vN hA nd) (gOwn g vN hA (nd.set i ⟨x.ps, x.ss.set k v, x.pb, x.sb⟩)) w (w.setCell ⟨x.sb, k, none⟩ (.int .u64 v)) := by
  have fs : Frm (fun j => j = x.sb) w (w.setCell ⟨x.sb, k, none⟩ (.int .u64 v)) := Frm.setCell (S := fun j => j = x.sb) (Frm.refl _ _) (p := ⟨x.sb, k, none⟩) (fun _ => rfl) _
  have hm := List.mem_of_getElem? hx
  obtain ⟨nb, nc, cur, en, hnb, _⟩ := h.row
  have bx := h.sca x hm
  have hl : (nd.set i ⟨x.ps, x.ss.set k v, x.pb, x.sb⟩).length = nd.length := List.length_set
  refine ⟨{ blk := h.blk.frm fs (fun e => Blk.ne_ h.blk bx (by decide) e), hrow := h.hrow.frm fs (fun j hj e => h.hNe bx (by decide) (by rw [hj, e])), nrow := ?_, ptr := ?_, sca := ?_, hap := nd_set hx _ h.hap (h.hap x hm), nap := (pair_set hx rfl rfl h.nap), hin := (by rw [hl]; exact h.hin), pin := ?_, few := (by rw [hl]; exact h.few), hfew := h.hfew, lg0 := h.lg0, lg1 := h.lg1, size := nd_set hx _ h.size (by rw [List.length_set]; exact h.size x hm) }, ?_, fun j e => .inl (gOwn_set (y := ⟨x.ps, x.ss.set k v, x.pb, x.sb⟩) hx rfl rfl e)⟩
  · rw [hl, ndV_set nd i x _ hx (by simp [Nd.vs])]
    refine ownsRow_frm h.nrow fs ?_
    intro j e; rw [en] at e; cases e
    exact fun e => Blk.ne_ hnb bx (by decide) e
  · refine nd_set hx (fun z => Blk (w.setCell ⟨x.sb, k, none⟩ (.int .u64 v)) z.pb (ints z.ps).toArray 3) (fun z hz => (h.ptr z hz).frm fs fun e => Blk.ne_ (h.ptr z hz) bx (by decide) e) ((h.ptr x hm).frm fs fun e => Blk.ne_ (h.ptr x hm) bx (by decide) e)
  · intro z hz
    rw [List.mem_iff_getElem?] at hz
    obtain ⟨j, hj⟩ := hz
    by_cases e : i = j
    · subst e
      have hi := (List.getElem?_eq_some_iff.1 hx).1
      rw [List.getElem?_set_self hi] at hj
      cases hj
      have := bx.set_ k (.int .u64 v)
      rw [wordsU_set] at this
      exact this
    · rw [List.getElem?_set_ne e] at hj
      exact (h.sca z (List.mem_of_getElem? hj)).frm fs (other_blk hx h.nap hj e).2
  · rw [hl]
    exact nd_set hx (fun z => ∀ q ∈ z.ps, 0 ≤ q ∧ q ≤ nd.length) h.pin (h.pin x hm)
  · exact fs.mono fun j _ e => .inr (.inr (.inr ⟨x, hm, .inr e⟩))
end

section
variable {w : World} {g : Nat} {S : Nat → Prop} {G : Gr}
/-- A node that there is. -/
theorem node_at {nd : List Nd} (e : G.ns = nd.map Nd.two) {x : Int} (x0 : 0 < x) (x1 : x ≤ nd.length) : ∃ (i : Nat) (y : Nd), x = ((i + 1 : Nat) : Int) ∧ nd[i]? = some y ∧ G.node x = (y.ps, y.ss) ∧ x.toNat - 1 = i := by
  obtain ⟨i, rfl⟩ : ∃ i : Nat, x = ((i + 1 : Nat) : Int) := ⟨x.toNat - 1, by omega⟩
  have hi : i < nd.length := by omega
  refine ⟨i, _, rfl, List.getElem?_eq_getElem hi, ?_, by omega⟩
  unfold Gr.node
  rw [e, Int.toNat_natCast, Nat.add_sub_cancel, List.getD_eq_getElem?_getD, List.getElem?_map, List.getElem?_eq_getElem hi]
  rfl
end
end Go.Proofs.YthmhehehomieiaaGreat

/- Contracts of the document's graph: entries that change something, but making. -/
namespace Go.Proofs.YthmhehehomieiaaGreat
open Go.RowKit

abbrev sgV (k a b c v : Int) : Value := .agg #[.int .i64 k, .int .i64 a, .int .i64 b, .int .i64 c, .int .u64 v]
abbrev stB (k a b c v : Int) : Obj := .cells #[.int .i64 k, .int .i64 a, .int .i64 b, .int .i64 c, .int .u64 v] 53

/-- An error, and what it comes to. -/
def ChR (w : World) (g : Nat) (S : Nat → Prop) (G : Gr) (k a b c v : Int) (e : Ending) (w' : World) : Prop :=
  e = .returned (.int .i64 (G.change k a b c v).1) ∧ ∃ S', Rg w' g S' (G.change k a b c v).2 ∧ Mv S S' w w'

theorem chR_err {w w' : World} {g : Nat} {S : Nat → Prop} {G : Gr} {k a b c v x : Int} (h : Rg w g S G) (f : Below w.heap.size w w') (e : G.change k a b c v = (x, G)) : ChR w g S G k a b c v (.returned (.int .i64 x)) w' := by
  unfold ChR
  rw [e]
  exact ⟨rfl, S, h.keep f, Mv.of_below f⟩

section
variable (w : World) (g : Nat) (S : Nat → Prop) (G : Gr) (a b c v : Int)

set_option maxRecDepth 100000 in
set_option maxHeartbeats 4000000 in
theorem rgClear (r : Rg w g S G) : Calls Tryz.prog 71 #[.pointer (some ⟨g, 0, none⟩), sgV 6 a b c v] w fun e w' => ChR w g S G 6 a b c v e w' := by
  have al : Below w.heap.size w (w.alloc (stB 6 a b c v)) := (Below.refl _ _).alloc (Nat.le_refl _) _
  have HH := Lib.hid (rgHas_any _ g S G a (r.keep al))
  cases hb : G.has a
  · rw [hb] at HH
    have HE := Lib.hid (chR_err (k := 6) (a := a) (b := b) (c := c) (v := v) (x := 3) r al (by simp [Gr.change, hb]))
    clear r hb al
    go_enter Tryz.func71, Tryz.ntmps71
    go_wp2_with fail
    refine HH.out.mono ?_
    rintro e w1 ⟨rfl, rfl⟩
    go_wp2
    go_ret
    exact HE.out
  · obtain ⟨i, x, rfl, hl, hx, hv, x0, x1⟩ := r.at_ hb
    rw [hb] at HH
    have ec : G.change 6 i b c v = (0, G.hold i 0) := by simp [Gr.change, hb]
    obtain ⟨vN, hA, hc, nd, hi, eN, rfl⟩ := r
    have hk := hi.keep al
    obtain ⟨q, off, rfl, _, hcx, hfz⟩ := hk.hrow.at_ (by omega)
    have cx := hcx i x hx
    have kb := Blk.new w #[.int .i64 6, .int .i64 i, .int .i64 b, .int .i64 c, .int .u64 v] 53
    have hf := hi.hfew
    obtain ⟨c0, c1, c2, cf⟩ := hk.four
    have HE := Lib.hid (fun (w' : World) (f : Below (w.alloc (stB 6 i b c v)).heap.size (w.alloc (stB 6 i b c v)) w') => (show ChR w g (gOwn g vN (some ⟨q, off, none⟩) nd) G 6 i b c v (.returned (.int .i64 0)) (w'.setCell ⟨q, off + i, none⟩ (.int .i64 0)) from by
      obtain ⟨h1, mv⟩ := (hk.keep f).hold i 0 (by decide) (by omega)
      unfold ChR
      rw [ec]
      exact ⟨rfl, _, ⟨vN, _, hc, nd, by unfold Gr.hold; rw [Int.toNat_natCast]; exact h1, eN, rfl⟩, Mv.pre (below_trans al f) mv⟩))
    have s1 := kb.cell 1
    have sf := kb.frozen
    clear hi hcx hv hx hb ec kb al x0 x1 eN c0 c2
    generalize G.hs.length = n at c1 hl hf
    go_enter Tryz.func71, Tryz.ntmps71
    go_wp2_with fail
    refine HH.out.mono ?_
    rintro e w1 ⟨rfl, rfl⟩
    generalize hW : w.alloc (stB 6 i b c v) = W at *
    go_wp2_with fail
    go_region
    go_wp2
    go_ret
    exact HE.out _ (below_drew _)

set_option maxRecDepth 100000 in
set_option maxHeartbeats 4000000 in
theorem rgCopy (r : Rg w g S G) : Calls Tryz.prog 71 #[.pointer (some ⟨g, 0, none⟩), sgV 7 a b c v] w fun e w' => ChR w g S G 7 a b c v e w' := by
  have al : Below w.heap.size w (w.alloc (stB 7 a b c v)) := (Below.refl _ _).alloc (Nat.le_refl _) _
  have HH := Lib.hid (rgHas_any _ g S G a (r.keep al))
  have HB := Lib.hid (rgHas_any _ g S G b (r.keep al))
  cases hb : G.has a
  · rw [hb] at HH
    have HE := Lib.hid (chR_err (k := 7) (a := a) (b := b) (c := c) (v := v) (x := 3) r al (by simp [Gr.change, hb]))
    clear r hb al HB
    go_enter Tryz.func71, Tryz.ntmps71
    go_wp2_with fail
    refine HH.out.mono ?_
    rintro e w1 ⟨rfl, rfl⟩
    go_wp2
    go_ret
    exact HE.out
  · rw [hb] at HH
    cases hd : G.has b
    · rw [hd] at HB
      have HE := Lib.hid (chR_err (k := 7) (a := a) (b := b) (c := c) (v := v) (x := 3) r al (by simp [Gr.change, hb, hd]))
      clear r hb hd al
      go_enter Tryz.func71, Tryz.ntmps71
      go_wp2_with fail
      refine HH.out.mono ?_
      rintro e w1 ⟨rfl, rfl⟩
      go_wp2_with fail
      refine HB.out.mono ?_
      rintro e w1 ⟨rfl, rfl⟩
      go_wp2
      go_ret
      exact HE.out
    · rw [hd] at HB
      obtain ⟨i, x, rfl, hl, hx, hv, x0, x1⟩ := r.at_ hb
      obtain ⟨j, y, rfl, jl, hy, yv, y0, y1⟩ := r.at_ hd
      have ec : G.change 7 i j c v = (0, G.hold i y) := by simp [Gr.change, hb, hd, yv]
      obtain ⟨vN, hA, hc, nd, hi, eN, rfl⟩ := r
      have hk := hi.keep al
      obtain ⟨q, off, rfl, _, hcx, hfz⟩ := hk.hrow.at_ (by omega)
      have cx := hcx i x hx
      have cy := hcx j y hy
      have kb := Blk.new w #[.int .i64 7, .int .i64 i, .int .i64 j, .int .i64 c, .int .u64 v] 53
      have hf := hi.hfew
      obtain ⟨c0, c1, c2, cf⟩ := hk.four
      have HE := Lib.hid (fun (w' : World) (f : Below (w.alloc (stB 7 i j c v)).heap.size (w.alloc (stB 7 i j c v)) w') => (show ChR w g (gOwn g vN (some ⟨q, off, none⟩) nd) G 7 i j c v (.returned (.int .i64 0)) (w'.setCell ⟨q, off + i, none⟩ (.int .i64 y)) from by
        obtain ⟨h1, mv⟩ := (hk.keep f).hold i y y0 (by rw [eN, List.length_map] at y1; exact y1)
        unfold ChR
        rw [ec]
        exact ⟨rfl, _, ⟨vN, _, hc, nd, by unfold Gr.hold; rw [Int.toNat_natCast]; exact h1, eN, rfl⟩, Mv.pre (below_trans al f) mv⟩))
      have s1 := kb.cell 1
      have s2 := kb.cell 2
      have sf := kb.frozen
      clear hi hcx hv yv hx hy hb hd ec kb al x0 x1 y0 y1 eN c0 c2
      generalize G.hs.length = n at c1 hl jl hf
      go_enter Tryz.func71, Tryz.ntmps71
      go_wp2_with fail
      refine HH.out.mono ?_
      rintro e w1 ⟨rfl, rfl⟩
      go_wp2_with fail
      refine HB.out.mono ?_
      rintro e w1 ⟨rfl, rfl⟩
      generalize hW : w.alloc (stB 7 i j c v) = W at *
      go_wp2_with fail
      go_region
      go_wp2
      go_ret
      exact HE.out _ (below_drew _)

end

/-- A step's box, a node's copy, and the graph beside them. -/
structure Gx (w V : World) (g : Nat) (vN : Value) (hA : Option Addr) (hc : Nat) (nd : List Nd) (hs : List Int) (lg : Int) (sb nb : Nat) (k a b c v : Int) (z : Nd) : Prop where
  isg : IsG V g vN hA hc nd hs lg
  bel : Below w.heap.size w V
  st : Blk V sb #[.int .i64 k, .int .i64 a, .int .i64 b, .int .i64 c, .int .u64 v] 53
  nb : Blk V nb #[.slice (some ⟨z.pb, 0, none⟩) z.ps.length z.ps.length, .slice (some ⟨z.sb, 0, none⟩) z.ss.length z.ss.length] 120

theorem gx_make {w : World} {g : Nat} {vN : Value} {hA : Option Addr} {hc : Nat} {nd : List Nd} {hs : List Int} {lg : Int} (h : IsG w g vN hA hc nd hs lg) (k a b c v : Int) (z : Nd) :
    Gx w ((w.alloc (stB k a b c v)).alloc (.cells #[.slice (some ⟨z.pb, 0, none⟩) z.ps.length z.ps.length, .slice (some ⟨z.sb, 0, none⟩) z.ss.length z.ss.length] 120)).drew g vN hA hc nd hs lg w.heap.size (w.alloc (stB k a b c v)).heap.size k a b c v z := by
  have b1 : Below w.heap.size w (w.alloc (stB k a b c v)) := (Below.refl _ _).alloc (Nat.le_refl _) _
  have b2 := (Below.refl (w.alloc (stB k a b c v)).heap.size (w.alloc (stB k a b c v))).alloc (Nat.le_refl _) (.cells #[.slice (some ⟨z.pb, 0, none⟩) z.ps.length z.ps.length, .slice (some ⟨z.sb, 0, none⟩) z.ss.length z.ss.length] 120)
  have b3 := below_trans (below_trans b1 b2) (below_drew _)
  exact ⟨h.keep b3, b3, ((Blk.new w _ _).keep b2).drew, (Blk.new _ _ _).drew⟩

/-- A handle that holds an object. -/
theorem wrong_zero {G : Gr} {b : Int} (hw : G.wrong b = 0) : G.has b = true ∧ G.held b ≠ 0 := by
  unfold Gr.wrong at hw
  split at hw
  · rename_i hh
    refine ⟨hh, fun e => ?_⟩
    rw [if_pos e] at hw
    cases hw
  · cases hw

theorem two_set {nd : List Nd} {ns : List (List Int × List Int)} (e : ns = nd.map Nd.two) (i : Nat) (y : Nd) : ns.set i (y.ps, y.ss) = (nd.set i y).map Nd.two := by
  rw [e, List.map_set]; rfl
end Go.Proofs.YthmhehehomieiaaGreat

/- The statements' do: an entry of a script, by whatever the core's call comes to. -/
namespace Go.Proofs.YthmhehehomieiaaGreat
open Go.RowKit

/-- Where do stands ahead of the call: the entry and two answers lie in boxes. -/
abbrev doW (w : World) (k a b c v : Int) : World := ((w.alloc (stB k a b c v)).alloc anB).alloc anB
abbrev anL : Array Value := #[.int .i64 0, .bool false, .int .i64 0, .int .u64 0]

theorem doW_below (w : World) (k a b c v : Int) : Below w.heap.size w (doW w k a b c v) := (((Below.refl _ w).alloc (Nat.le_refl _) _).alloc (by simp) _).alloc (by simp; omega) _
theorem doW_size (w : World) (k a b c v : Int) : (doW w k a b c v).heap.size = w.heap.size + 3 := by simp
theorem doW_boxes (w : World) (k a b c v : Int) : Blk (doW w k a b c v) (w.heap.size + 1) anL 55 ∧ Blk (doW w k a b c v) (w.heap.size + 2) anL 55 :=
  ⟨by simpa using (Blk.new (w.alloc (stB k a b c v)) anL 55).alloc anB, by simpa using Blk.new ((w.alloc (stB k a b c v)).alloc anB) anL 55⟩

/-- The call leaves the answers' boxes as they are. -/
def Leaves (w : World) (R : World → Prop) : Prop := ∀ w', R w' → Blk w' (w.heap.size + 1) anL 55 ∧ Blk w' (w.heap.size + 2) anL 55

/-- What stands behind do: the answers' boxes have been written to since. -/
def DoE (w : World) (R : World → Prop) (w' : World) : Prop := ∃ w4, R w4 ∧ Frm (fun k => k = w.heap.size + 1 ∨ k = w.heap.size + 2) w4 w'

theorem Blk.four {w : World} {b : Nat} {t : TypeId} {v0 v1 v2 v3 : Value} (h : Blk w b #[v0, v1, v2, v3] t) :
    w.cell? ⟨b, 0, none⟩ = some v0 ∧ w.cell? ⟨b, 1, none⟩ = some v1 ∧ w.cell? ⟨b, 2, none⟩ = some v2 ∧ w.cell? ⟨b, 3, none⟩ = some v3 ∧ (∀ i, w.frozen? ⟨b, i, none⟩ = false) := ⟨h.cell 0, h.cell 1, h.cell 2, h.cell 3, h.frozen⟩

theorem frm_cell {T : Nat → Prop} {w w' : World} (f : Frm T w w') (b i : Nat) (hb : T b) (v : Value) : Frm T w (w'.setCell ⟨b, i, none⟩ v) := f.setCell (p := ⟨b, i, none⟩) (fun _ => hb) v

set_option maxHeartbeats 4000000 in
set_option maxRecDepth 100000 in
theorem do_Make {pv : Value} (a b c v : Int) (E : Int) (w : World) (R : World → Prop) (hl : Leaves w R)
    (H : Calls Tryz.prog 33 #[pv, .int .i64 a, .int .i64 b, .int .i64 c] (doW w 1 a b c v) fun e w' => e = .returned (.int .i64 E) ∧ R w') :
    Calls Tryz.prog 26 #[pv, sgV 1 a b c v] w fun e w' => e = .returned (anV E false 0 0) ∧ DoE w R w' := by
  have H := Lib.hid H
  have HL := Lib.hid hl
  clear hl
  go_enter Tryz.func26, Tryz.ntmps26
  go_wp2_with fail
  refine H.out.mono ?_
  rintro e w4 ⟨rfl, r⟩
  have x := HL.out _ r
  obtain ⟨c0, c1, c2, c3, cf⟩ := x.1.four
  obtain ⟨d0, d1, d2, d3, df⟩ := x.2.four
  have HR := Lib.hid r
  have HX := Lib.hid x
  clear r x H HL
  go_wp2
  refine bodyPost_ret (v := anV E false 0 0) (by simp [results, Tryz.results26, go_sem, c0, c1, c2, c3]) rfl ⟨rfl, _, HR.out, ?_⟩
  refine frm_cell (frm_cell (frm_cell (frm_cell ?_ _ _ (.inl rfl) _) _ _ (.inl rfl) _) _ _ (.inl rfl) _) _ _ (.inl rfl) _
  exact frm_cell (Frm.refl _ _) _ _ (.inr rfl) _

set_option maxHeartbeats 4000000 in
set_option maxRecDepth 100000 in
theorem do_Get {pv : Value} (a b c v : Int) (E : Int) (w : World) (R : World → Prop) (hl : Leaves w R)
    (H : Calls Tryz.prog 35 #[pv, .int .i64 a, .int .i64 b, .int .i64 c] (doW w 2 a b c v) fun e w' => e = .returned (.int .i64 E) ∧ R w') :
    Calls Tryz.prog 26 #[pv, sgV 2 a b c v] w fun e w' => e = .returned (anV E false 0 0) ∧ DoE w R w' := by
  have H := Lib.hid H
  have HL := Lib.hid hl
  clear hl
  go_enter Tryz.func26, Tryz.ntmps26
  go_wp2_with fail
  refine H.out.mono ?_
  rintro e w4 ⟨rfl, r⟩
  have x := HL.out _ r
  obtain ⟨c0, c1, c2, c3, cf⟩ := x.1.four
  obtain ⟨d0, d1, d2, d3, df⟩ := x.2.four
  have HR := Lib.hid r
  have HX := Lib.hid x
  clear r x H HL
  go_wp2
  refine bodyPost_ret (v := anV E false 0 0) (by simp [results, Tryz.results26, go_sem, c0, c1, c2, c3]) rfl ⟨rfl, _, HR.out, ?_⟩
  refine frm_cell (frm_cell (frm_cell (frm_cell ?_ _ _ (.inl rfl) _) _ _ (.inl rfl) _) _ _ (.inl rfl) _) _ _ (.inl rfl) _
  exact frm_cell (Frm.refl _ _) _ _ (.inr rfl) _

set_option maxHeartbeats 4000000 in
set_option maxRecDepth 100000 in
theorem do_Set {pv : Value} (a b c v : Int) (E : Int) (w : World) (R : World → Prop) (hl : Leaves w R)
    (H : Calls Tryz.prog 41 #[pv, .int .i64 a, .int .i64 b, .int .i64 c] (doW w 3 a b c v) fun e w' => e = .returned (.int .i64 E) ∧ R w') :
    Calls Tryz.prog 26 #[pv, sgV 3 a b c v] w fun e w' => e = .returned (anV E false 0 0) ∧ DoE w R w' := by
  have H := Lib.hid H
  have HL := Lib.hid hl
  clear hl
  go_enter Tryz.func26, Tryz.ntmps26
  go_wp2_with fail
  refine H.out.mono ?_
  rintro e w4 ⟨rfl, r⟩
  have x := HL.out _ r
  obtain ⟨c0, c1, c2, c3, cf⟩ := x.1.four
  obtain ⟨d0, d1, d2, d3, df⟩ := x.2.four
  have HR := Lib.hid r
  have HX := Lib.hid x
  clear r x H HL
  go_wp2
  refine bodyPost_ret (v := anV E false 0 0) (by simp [results, Tryz.results26, go_sem, c0, c1, c2, c3]) rfl ⟨rfl, _, HR.out, ?_⟩
  refine frm_cell (frm_cell (frm_cell (frm_cell ?_ _ _ (.inl rfl) _) _ _ (.inl rfl) _) _ _ (.inl rfl) _) _ _ (.inl rfl) _
  exact frm_cell (Frm.refl _ _) _ _ (.inr rfl) _

set_option maxHeartbeats 4000000 in
set_option maxRecDepth 100000 in
theorem do_Write {pv : Value} (a b c v : Int) (E : Int) (w : World) (R : World → Prop) (hl : Leaves w R)
    (H : Calls Tryz.prog 40 #[pv, .int .i64 a, .int .i64 b, .int .u64 v] (doW w 5 a b c v) fun e w' => e = .returned (.int .i64 E) ∧ R w') :
    Calls Tryz.prog 26 #[pv, sgV 5 a b c v] w fun e w' => e = .returned (anV E false 0 0) ∧ DoE w R w' := by
  have H := Lib.hid H
  have HL := Lib.hid hl
  clear hl
  go_enter Tryz.func26, Tryz.ntmps26
  go_wp2_with fail
  refine H.out.mono ?_
  rintro e w4 ⟨rfl, r⟩
  have x := HL.out _ r
  obtain ⟨c0, c1, c2, c3, cf⟩ := x.1.four
  obtain ⟨d0, d1, d2, d3, df⟩ := x.2.four
  have HR := Lib.hid r
  have HX := Lib.hid x
  clear r x H HL
  go_wp2
  refine bodyPost_ret (v := anV E false 0 0) (by simp [results, Tryz.results26, go_sem, c0, c1, c2, c3]) rfl ⟨rfl, _, HR.out, ?_⟩
  refine frm_cell (frm_cell (frm_cell (frm_cell ?_ _ _ (.inl rfl) _) _ _ (.inl rfl) _) _ _ (.inl rfl) _) _ _ (.inl rfl) _
  exact frm_cell (Frm.refl _ _) _ _ (.inr rfl) _

set_option maxHeartbeats 4000000 in
set_option maxRecDepth 100000 in
theorem do_Clear {pv : Value} (a b c v : Int) (E : Int) (w : World) (R : World → Prop) (hl : Leaves w R)
    (H : Calls Tryz.prog 44 #[pv, .int .i64 a] (doW w 6 a b c v) fun e w' => e = .returned (.int .i64 E) ∧ R w') :
    Calls Tryz.prog 26 #[pv, sgV 6 a b c v] w fun e w' => e = .returned (anV E false 0 0) ∧ DoE w R w' := by
  have H := Lib.hid H
  have HL := Lib.hid hl
  clear hl
  go_enter Tryz.func26, Tryz.ntmps26
  go_wp2_with fail
  refine H.out.mono ?_
  rintro e w4 ⟨rfl, r⟩
  have x := HL.out _ r
  obtain ⟨c0, c1, c2, c3, cf⟩ := x.1.four
  obtain ⟨d0, d1, d2, d3, df⟩ := x.2.four
  have HR := Lib.hid r
  have HX := Lib.hid x
  clear r x H HL
  go_wp2
  refine bodyPost_ret (v := anV E false 0 0) (by simp [results, Tryz.results26, go_sem, c0, c1, c2, c3]) rfl ⟨rfl, _, HR.out, ?_⟩
  refine frm_cell (frm_cell (frm_cell (frm_cell ?_ _ _ (.inl rfl) _) _ _ (.inl rfl) _) _ _ (.inl rfl) _) _ _ (.inl rfl) _
  exact frm_cell (Frm.refl _ _) _ _ (.inr rfl) _

set_option maxHeartbeats 4000000 in
set_option maxRecDepth 100000 in
theorem do_Copy {pv : Value} (a b c v : Int) (E : Int) (w : World) (R : World → Prop) (hl : Leaves w R)
    (H : Calls Tryz.prog 42 #[pv, .int .i64 a, .int .i64 b] (doW w 7 a b c v) fun e w' => e = .returned (.int .i64 E) ∧ R w') :
    Calls Tryz.prog 26 #[pv, sgV 7 a b c v] w fun e w' => e = .returned (anV E false 0 0) ∧ DoE w R w' := by
  have H := Lib.hid H
  have HL := Lib.hid hl
  clear hl
  go_enter Tryz.func26, Tryz.ntmps26
  go_wp2_with fail
  refine H.out.mono ?_
  rintro e w4 ⟨rfl, r⟩
  have x := HL.out _ r
  obtain ⟨c0, c1, c2, c3, cf⟩ := x.1.four
  obtain ⟨d0, d1, d2, d3, df⟩ := x.2.four
  have HR := Lib.hid r
  have HX := Lib.hid x
  clear r x H HL
  go_wp2
  refine bodyPost_ret (v := anV E false 0 0) (by simp [results, Tryz.results26, go_sem, c0, c1, c2, c3]) rfl ⟨rfl, _, HR.out, ?_⟩
  refine frm_cell (frm_cell (frm_cell (frm_cell ?_ _ _ (.inl rfl) _) _ _ (.inl rfl) _) _ _ (.inl rfl) _) _ _ (.inl rfl) _
  exact frm_cell (Frm.refl _ _) _ _ (.inr rfl) _

set_option maxHeartbeats 4000000 in
set_option maxRecDepth 100000 in
theorem do_Read {pv : Value} (a b c v : Int) (E V : Int) (w : World) (R : World → Prop) (hl : Leaves w R)
    (H : Calls Tryz.prog 37 #[pv, .int .i64 a, .int .i64 b] (doW w 4 a b c v) fun e w' => e = .returned (.tuple #[.int .u64 V, .int .i64 E]) ∧ R w') :
    Calls Tryz.prog 26 #[pv, sgV 4 a b c v] w fun e w' => e = .returned (anV E false 0 V) ∧ DoE w R w' := by
  have H := Lib.hid H
  have HL := Lib.hid hl
  clear hl
  go_enter Tryz.func26, Tryz.ntmps26
  go_wp2_with fail
  refine H.out.mono ?_
  rintro e w4 ⟨rfl, r⟩
  have x := HL.out _ r
  obtain ⟨c0, c1, c2, c3, cf⟩ := x.1.four
  obtain ⟨d0, d1, d2, d3, df⟩ := x.2.four
  have HR := Lib.hid r
  have HX := Lib.hid x
  clear r x H HL
  go_wp2
  refine bodyPost_ret (v := anV E false 0 V) (by simp [results, Tryz.results26, go_sem, c0, c1, c2, c3]) rfl ⟨rfl, _, HR.out, ?_⟩
  refine frm_cell (frm_cell (frm_cell (frm_cell ?_ _ _ (.inl rfl) _) _ _ (.inl rfl) _) _ _ (.inl rfl) _) _ _ (.inl rfl) _
  exact frm_cell (frm_cell (Frm.refl _ _) _ _ (.inr rfl) _) _ _ (.inr rfl) _

set_option maxHeartbeats 4000000 in
set_option maxRecDepth 100000 in
theorem do_Same {pv : Value} (a b c v : Int) (E : Int) (y : Bool) (w : World) (R : World → Prop) (hl : Leaves w R)
    (H : Calls Tryz.prog 43 #[pv, .int .i64 a, .int .i64 b] (doW w 8 a b c v) fun e w' => e = .returned (.tuple #[.bool y, .int .i64 E]) ∧ R w') :
    Calls Tryz.prog 26 #[pv, sgV 8 a b c v] w fun e w' => e = .returned (anV E y 0 0) ∧ DoE w R w' := by
  have H := Lib.hid H
  have HL := Lib.hid hl
  clear hl
  go_enter Tryz.func26, Tryz.ntmps26
  go_wp2_with fail
  refine H.out.mono ?_
  rintro e w4 ⟨rfl, r⟩
  have x := HL.out _ r
  obtain ⟨c0, c1, c2, c3, cf⟩ := x.1.four
  obtain ⟨d0, d1, d2, d3, df⟩ := x.2.four
  have HR := Lib.hid r
  have HX := Lib.hid x
  clear r x H HL
  go_wp2
  refine bodyPost_ret (v := anV E y 0 0) (by simp [results, Tryz.results26, go_sem, c0, c1, c2, c3]) rfl ⟨rfl, _, HR.out, ?_⟩
  refine frm_cell (frm_cell (frm_cell (frm_cell ?_ _ _ (.inl rfl) _) _ _ (.inl rfl) _) _ _ (.inl rfl) _) _ _ (.inl rfl) _
  exact frm_cell (frm_cell (Frm.refl _ _) _ _ (.inr rfl) _) _ _ (.inr rfl) _

set_option maxHeartbeats 4000000 in
set_option maxRecDepth 100000 in
theorem do_Nil {pv : Value} (a b c v : Int) (E : Int) (y : Bool) (w : World) (R : World → Prop) (hl : Leaves w R)
    (H : Calls Tryz.prog 36 #[pv, .int .i64 a] (doW w 9 a b c v) fun e w' => e = .returned (.tuple #[.bool y, .int .i64 E]) ∧ R w') :
    Calls Tryz.prog 26 #[pv, sgV 9 a b c v] w fun e w' => e = .returned (anV E y 0 0) ∧ DoE w R w' := by
  have H := Lib.hid H
  have HL := Lib.hid hl
  clear hl
  go_enter Tryz.func26, Tryz.ntmps26
  go_wp2_with fail
  refine H.out.mono ?_
  rintro e w4 ⟨rfl, r⟩
  have x := HL.out _ r
  obtain ⟨c0, c1, c2, c3, cf⟩ := x.1.four
  obtain ⟨d0, d1, d2, d3, df⟩ := x.2.four
  have HR := Lib.hid r
  have HX := Lib.hid x
  clear r x H HL
  go_wp2
  refine bodyPost_ret (v := anV E y 0 0) (by simp [results, Tryz.results26, go_sem, c0, c1, c2, c3]) rfl ⟨rfl, _, HR.out, ?_⟩
  refine frm_cell (frm_cell (frm_cell (frm_cell ?_ _ _ (.inl rfl) _) _ _ (.inl rfl) _) _ _ (.inl rfl) _) _ _ (.inl rfl) _
  exact frm_cell (frm_cell (Frm.refl _ _) _ _ (.inr rfl) _) _ _ (.inr rfl) _

set_option maxHeartbeats 4000000 in
set_option maxRecDepth 100000 in
theorem do_Shape {pv : Value} (a b c v : Int) (E p q : Int) (q0 : 0 ≤ q) (q1 : q ≤ 100000) (w : World) (R : World → Prop) (hl : Leaves w R)
    (H : Calls Tryz.prog 34 #[pv, .int .i64 a] (doW w 10 a b c v) fun e w' => e = .returned (.tuple #[.int .i64 p, .int .i64 q, .int .i64 E]) ∧ R w') :
    Calls Tryz.prog 26 #[pv, sgV 10 a b c v] w fun e w' => e = .returned (anV E false p q) ∧ DoE w R w' := by
  have H := Lib.hid H
  have HL := Lib.hid hl
  clear hl
  have hw : IntKind.u64.wrap q = q := by unfold IntKind.wrap IntKind.bits; simp; omega
  go_enter Tryz.func26, Tryz.ntmps26
  go_wp2_with fail
  refine H.out.mono ?_
  rintro e w4 ⟨rfl, r⟩
  have x := HL.out _ r
  obtain ⟨c0, c1, c2, c3, cf⟩ := x.1.four
  obtain ⟨d0, d1, d2, d3, df⟩ := x.2.four
  have HR := Lib.hid r
  have HX := Lib.hid x
  clear r x H HL
  go_wp2
  refine bodyPost_ret (v := anV E false p q) (by simp [results, Tryz.results26, go_sem, c0, c1, c2, c3]) rfl ⟨rfl, _, HR.out, ?_⟩
  refine frm_cell (frm_cell (frm_cell (frm_cell ?_ _ _ (.inl rfl) _) _ _ (.inl rfl) _) _ _ (.inl rfl) _) _ _ (.inl rfl) _
  exact frm_cell (frm_cell (frm_cell (Frm.refl _ _) _ _ (.inr rfl) _) _ _ (.inr rfl) _) _ _ (.inr rfl) _

set_option maxHeartbeats 4000000 in
set_option maxRecDepth 100000 in
theorem do_other {pv : Value} (k a b c v : Int) (hk : k < 1 ∨ 10 < k) (w : World) :
    Calls Tryz.prog 26 #[pv, sgV k a b c v] w fun e w' => e = .returned (anV 0 false 0 0) ∧ Below w.heap.size w w' := by
  have k1 : ¬ k = 1 := by omega
  have k2 : ¬ k = 2 := by omega
  have k3 : ¬ k = 3 := by omega
  have k4 : ¬ k = 4 := by omega
  have k5 : ¬ k = 5 := by omega
  have k6 : ¬ k = 6 := by omega
  have k7 : ¬ k = 7 := by omega
  have k8 : ¬ k = 8 := by omega
  have k9 : ¬ k = 9 := by omega
  have k10 : ¬ k = 10 := by omega
  have BW := Lib.hid (doW_below w k a b c v)
  clear hk
  go_enter Tryz.func26, Tryz.ntmps26
  go_wp2
  exact bodyPost_ret (v := anV 0 false 0 0) (by simp [results, Tryz.results26, go_sem]) rfl ⟨rfl, BW.out⟩

end Go.Proofs.YthmhehehomieiaaGreat

/- An entry of a script, done by a core: what it answers, and which graph the core holds then. -/
namespace Go.Proofs.YthmhehehomieiaaGreat
open Go.RowKit

/-- What an entry is answered, and which graph there is behind it. -/
def doA (nu : Int) (G : Gr) (k a p q v : Int) : Int × Bool × Int × Int :=
  if k = 1 ∨ k = 2 ∨ k = 3 ∨ k = 5 ∨ k = 6 ∨ k = 7 then (stE nu G k a p q v, false, 0, 0)
  else if k = 4 ∨ k = 8 ∨ k = 9 ∨ k = 10 then G.ask k a p else (0, false, 0, 0)
def doG (nu : Int) (G : Gr) (k a p q v : Int) : Gr :=
  if k = 1 ∨ k = 2 ∨ k = 3 ∨ k = 5 ∨ k = 6 ∨ k = 7 then stG nu G k a p q v else G

abbrev anOf (x : Int × Bool × Int × Int) : Value := anV x.1 x.2.1 x.2.2.1 x.2.2.2

/-- Behind an entry: with an error the core holds what it held. -/
def KzP (w0 : World) (b : Nat) (s : Co) (G' : Gr) (E : Int) (Z : Nat → Prop) (w' : World) : Prop := ∃ s', Kz w0 w' Z b s' G' ∧ s'.cf = s.cf ∧ (E ≠ 0 → s' = s)

section
variable {w0 w w' : World} {Z : Nat → Prop} {b : Nat} {s : Co} {G G' : Gr} {k a p q v : Int}

theorem kz_do_of {P : Program} {m d : FuncId} {args dargs : Array Value} {M Eo : Ending → Prop} {E : Int} (h : Kz w0 w Z b s G)
    (D : ∀ R, Leaves w R → (Calls P m args (doW w k a p q v) fun e w' => M e ∧ R w') → Calls P d dargs w fun e w' => Eo e ∧ DoE w R w')
    (c : ∀ S, Cr (doW w k a p q v) b S s → Calls P m args (doW w k a p q v) fun e w' => M e ∧ Act13 (doW w k a p q v) b S s E G' w') :
    Calls P d dargs w fun e w' => Eo e ∧ KzP w0 b s G' E Z w' ∧ Kp Z w w' := by
  have bw := doW_below w k a p q v
  have hs := doW_size w k a p q v
  obtain ⟨x1, x2⟩ := doW_boxes w k a p q v
  have h1 : Kz w0 (doW w k a p q v) (fun j => Z j ∨ j = w.heap.size + 1 ∨ j = w.heap.size + 2) b s G := h.grow bw fun j hj => hj.imp id fun e => by rw [hs]; omega
  have hc := h1.act c
  generalize doW w k a p q v = W at *
  refine (D (fun w' => ∃ s', Kz w0 w' (fun j => Z j ∨ j = w.heap.size + 1 ∨ j = w.heap.size + 2) b s' G' ∧ Kp (fun j => Z j ∨ j = w.heap.size + 1 ∨ j = w.heap.size + 2) W w' ∧ s'.cf = s.cf ∧ (E ≠ 0 → s' = s))
    (fun w' hw => ?_) hc).mono fun e w' ⟨he, w4, hw, f⟩ => ?_
  · obtain ⟨s', _, kp, _⟩ := hw
    exact ⟨x1.kp kp (.inr (.inl rfl)), x2.kp kp (.inr (.inr rfl))⟩
  · obtain ⟨s', k', kp, e1, e2⟩ := hw
    refine ⟨he, ⟨s', k'.write f (fun j _ hj => .inr hj) (fun j hj => .inl (.inl hj)), e1, e2⟩, ?_⟩
    have q1 : Kp Z W w4 := kp.mono fun j _ hn hz => hn (.inl hz)
    have q2 : Kp Z w4 w' := f.mono fun j _ hj hz => by have := (h.low j hz).2; omega
    exact Kp.trans (Kp.of_below bw) (Kp.trans q1 q2)

/-- An entry. -/
theorem kz_do (h : Kz w0 w Z b s G) (k a p q v : Int) (q1 : q ≤ 9223372036854775807) :
    Calls Tryz.prog 26 #[ptr b, sgV k a p q v] w fun e w' => e = .returned (anOf (doA s.cf.nu G k a p q v)) ∧ KzP w0 b s (doG s.cf.nu G k a p q v) (doA s.cf.nu G k a p q v).1 Z w' ∧ Kp Z w w' := by
  by_cases hk : k < 1 ∨ 10 < k
  · have hA : doA s.cf.nu G k a p q v = (0, false, 0, 0) := by unfold doA; rw [if_neg (by omega), if_neg (by omega)]
    have hG : doG s.cf.nu G k a p q v = G := by unfold doG; rw [if_neg (by omega)]
    rw [hA, hG]
    exact (do_other k a p q v hk w).mono fun _ _ ⟨he, hb⟩ => ⟨he, ⟨s, h.keep hb, rfl, fun _ => rfl⟩, Kp.of_below hb⟩
  · have hk : k = 1 ∨ k = 2 ∨ k = 3 ∨ k = 4 ∨ k = 5 ∨ k = 6 ∨ k = 7 ∨ k = 8 ∨ k = 9 ∨ k = 10 := by omega
    rcases hk with rfl | rfl | rfl | rfl | rfl | rfl | rfl | rfl | rfl | rfl
    · have hA : doA s.cf.nu G 1 a p q v = (stE s.cf.nu G 1 a p q v, false, 0, 0) := rfl
      have hG : doG s.cf.nu G 1 a p q v = stG s.cf.nu G 1 a p q v := rfl
      rw [hA, hG]
      exact kz_do_of h (fun R hl H => do_Make a p q v _ w R hl H) fun S hC => make_rep hC h.rep a p q v q1
    · have hA : doA s.cf.nu G 2 a p q v = ((G.change 2 a p q v).1, false, 0, 0) := by rw [← stE_other (nu := s.cf.nu) (by omega)]; rfl
      have hG : doG s.cf.nu G 2 a p q v = (G.change 2 a p q v).2 := by rw [← stG_other (nu := s.cf.nu) (by omega)]; rfl
      rw [hA, hG]
      exact kz_do_of h (fun R hl H => do_Get a p q v _ w R hl H) fun S hC => get_rep hC h.rep a p q v
    · have hA : doA s.cf.nu G 3 a p q v = ((G.change 3 a p q v).1, false, 0, 0) := by rw [← stE_other (nu := s.cf.nu) (by omega)]; rfl
      have hG : doG s.cf.nu G 3 a p q v = (G.change 3 a p q v).2 := by rw [← stG_other (nu := s.cf.nu) (by omega)]; rfl
      rw [hA, hG]
      exact kz_do_of h (fun R hl H => do_Set a p q v _ w R hl H) fun S hC => set_rep hC h.rep a p q v
    · have hA : doA s.cf.nu G 4 a p q v = G.ask 4 a p := rfl
      have hG : doG s.cf.nu G 4 a p q v = G := rfl
      rw [hA, hG]
      have ha : (G.ask 4 a p).2.1 = false ∧ (G.ask 4 a p).2.2.1 = 0 := by
        unfold Gr.ask
        rw [if_pos rfl]
        split
        · split <;> exact ⟨rfl, rfl⟩
        · exact ⟨rfl, rfl⟩
      have := kz_do_of (E := (G.ask 4 a p).1) h (fun R hl H => do_Read a p q v (G.ask 4 a p).1 (G.ask 4 a p).2.2.2 w R hl H) fun S hC => (read_rep hC h.rep a p).mono fun _ _ ⟨h1, _, _, h2⟩ => ⟨h1, .same h.rep h2 _⟩
      unfold anOf
      rw [ha.1, ha.2]
      exact this
    · have hA : doA s.cf.nu G 5 a p q v = ((G.change 5 a p q v).1, false, 0, 0) := by rw [← stE_other (nu := s.cf.nu) (by omega)]; rfl
      have hG : doG s.cf.nu G 5 a p q v = (G.change 5 a p q v).2 := by rw [← stG_other (nu := s.cf.nu) (by omega)]; rfl
      rw [hA, hG]
      exact kz_do_of h (fun R hl H => do_Write a p q v _ w R hl H) fun S hC => write_rep hC h.rep a p q v
    · have hA : doA s.cf.nu G 6 a p q v = ((G.change 6 a p q v).1, false, 0, 0) := by rw [← stE_other (nu := s.cf.nu) (by omega)]; rfl
      have hG : doG s.cf.nu G 6 a p q v = (G.change 6 a p q v).2 := by rw [← stG_other (nu := s.cf.nu) (by omega)]; rfl
      rw [hA, hG]
      exact kz_do_of h (fun R hl H => do_Clear a p q v _ w R hl H) fun S hC => clear_rep hC h.rep a p q v
    · have hA : doA s.cf.nu G 7 a p q v = ((G.change 7 a p q v).1, false, 0, 0) := by rw [← stE_other (nu := s.cf.nu) (by omega)]; rfl
      have hG : doG s.cf.nu G 7 a p q v = (G.change 7 a p q v).2 := by rw [← stG_other (nu := s.cf.nu) (by omega)]; rfl
      rw [hA, hG]
      exact kz_do_of h (fun R hl H => do_Copy a p q v _ w R hl H) fun S hC => coCopy_rep hC h.rep a p q v
    · have hA : doA s.cf.nu G 8 a p q v = G.ask 8 a p := rfl
      have hG : doG s.cf.nu G 8 a p q v = G := rfl
      rw [hA, hG]
      have ha : (G.ask 8 a p).2.2 = (0, 0) := by
        unfold Gr.ask
        rw [if_neg (by omega), if_neg (by omega), if_pos rfl]
        split <;> rfl
      have := kz_do_of (E := (G.ask 8 a p).1) h (fun R hl H => do_Same a p q v (G.ask 8 a p).1 (G.ask 8 a p).2.1 w R hl H) fun S hC => (same_rep hC h.rep a p).mono fun _ _ ⟨h1, _, h2⟩ => ⟨h1, by subst h2; exact .same h.rep hC.same _⟩
      unfold anOf
      rw [ha]
      exact this
    · have hA : doA s.cf.nu G 9 a p q v = G.ask 9 a p := rfl
      have hG : doG s.cf.nu G 9 a p q v = G := rfl
      rw [hA, hG]
      have ha : (G.ask 9 a p).2.2 = (0, 0) := by
        unfold Gr.ask
        rw [if_neg (by omega), if_neg (by omega), if_neg (by omega), if_pos rfl]
        split <;> rfl
      have := kz_do_of (E := (G.ask 9 a p).1) h (fun R hl H => do_Nil a p q v (G.ask 9 a p).1 (G.ask 9 a p).2.1 w R hl H) fun S hC => (nil_rep hC h.rep a p).mono fun _ _ ⟨h1, _, h2⟩ => ⟨h1, by subst h2; exact .same h.rep hC.same _⟩
      unfold anOf
      rw [ha]
      exact this
    · have hA : doA s.cf.nu G 10 a p q v = G.ask 10 a p := rfl
      have hG : doG s.cf.nu G 10 a p q v = G := rfl
      rw [hA, hG]
      have ha : (G.ask 10 a p).2.1 = false ∧ 0 ≤ (G.ask 10 a p).2.2.2 ∧ (G.ask 10 a p).2.2.2 ≤ 100000 := by
        unfold Gr.ask
        rw [if_neg (by omega), if_pos rfl]
        by_cases kk : G.wrong a = 0
        · rw [if_pos kk]
          obtain ⟨e, z⟩ := Gr.wrong_zero kk
          have := h.rep.small _ (h.rep.mem e z)
          refine ⟨rfl, ?_, ?_⟩ <;> simp only <;> omega
        · rw [if_neg kk]; exact ⟨rfl, by simp, by simp⟩
      have := kz_do_of (E := (G.ask 10 a p).1) h (fun R hl H => do_Shape a p q v (G.ask 10 a p).1 (G.ask 10 a p).2.2.1 (G.ask 10 a p).2.2.2 ha.2.1 ha.2.2 w R hl H) fun S hC => (shape_rep hC h.rep a p).mono fun _ _ ⟨h1, _, h2⟩ => ⟨h1, .same h.rep h2 _⟩
      unfold anOf
      rw [ha.1]
      exact this

theorem kg_do {c : Cfg} (h : Kg w0 w Z b c G) (k a p q v : Int) (q1 : q ≤ 9223372036854775807) :
    Calls Tryz.prog 26 #[ptr b, sgV k a p q v] w fun e w' => e = .returned (anOf (doA c.nu G k a p q v)) ∧ Kg w0 w' Z b c (doG c.nu G k a p q v) ∧ Kp Z w w' := by
  obtain ⟨s, kz, rfl⟩ := h
  exact (kz_do kz k a p q v q1).mono fun _ _ ⟨he, ⟨s', k', e1, _⟩, kp⟩ => ⟨he, ⟨s', k', e1⟩, kp⟩
end
end Go.Proofs.YthmhehehomieiaaGreat

/- A number as an argument fits its kind. -/
namespace Go.Proofs.YthmhehehomieiaaGreat

theorem bounds_int {k : IntKind} {n : Int} (h : (Lit.int k n).wf = true) : k.min ≤ n ∧ n ≤ k.max := by
  simpa [Lit.wf] using h
end Go.Proofs.YthmhehehomieiaaGreat

/- A slice of numbers of any kind as an argument, and as it is read later; a slice of structs as an argument. -/
namespace Go.Proofs.YthmhehehomieiaaGreat
open Go.RowKit Go.ChangeShapes Go.WideShapes Go.Deep

/-- A slice of numbers from lo to hi as it came in: nil let in. -/
def RdN (k : IntKind) (lo hi : Int) (w : World) (A : Option Addr) (n : Nat) : Prop :=
  ∀ i, i < n → ∃ ad x, A = some ad ∧ lo ≤ x ∧ x ≤ hi ∧ ∀ w', Below w.heap.size w w' → w'.cell? (ad.add i) = some (.int k x)

theorem open_nums {H : Type} {enc : TypeId × Value → H} {P : Program} {w : World} {r : Reach} {b0 : Nat} {t e : TypeId} {k : IntKind} {v : Value} {d : DataW H} {ps : List MemPlace} (lo hi : Int)
    (ht : P.underlying t = some (.slice e)) (he : P.underlying e = some (.int k)) (hc : P.cellsOf e = 1) (hlo : k.min = lo) (hhi : k.max = hi) (hv : Value.okWide P w r b0 t v) (h : DataW.Trod enc P w 0 (fun _ => true) true t v d ps) :
    ∃ A n c, v = .slice A n c ∧ n ≤ c ∧ c ≤ maxLen ∧ RdN k lo hi w A n := by
  obtain ⟨A, n, c, xs, rfl, nc, cm, rd, wf⟩ := open_rd ht he hc hv h
  refine ⟨A, n, c, rfl, nc, cm, fun i hi' => ?_⟩
  have hl := rd.1
  have hx : xs[i]? = some (xs[i]'(by omega)) := List.getElem?_eq_getElem (by omega)
  obtain ⟨ad, e, hb, hc⟩ := rd.2 i _ hx
  have k := bounds_int (wf _ (List.mem_of_getElem? hx))
  exact ⟨ad, _, e, by rw [← hlo]; exact k.1, by rw [← hhi]; exact k.2, fun w' hb' => (hb'.cell (p := ad.add i) (by rw [block_of_add]; exact hb)).trans hc⟩

section
variable {H : Type} {enc : TypeId × Value → H} {P : Program} {w : World} {base : Nat} {spare : Nat → Bool} {held : Bool}
/-- A slice of structs whose fields take one cell each: the cells of each, with each field's own reading. -/
theorem open_structs {r : Reach} {b0 : Nat} {t e : TypeId} {fs : Array Field} {v : Value} {d : DataW H} {ps : List MemPlace} (ht : P.underlying t = some (.slice e)) (he : P.underlying e = some (.struct fs))
    (hone : oneCellFields P fs = true) (hC : P.cellsOf e = fs.size) (hv : Value.okWide P w r b0 t v) (h : DataW.Trod enc P w base spare held t v d ps) :
    ∃ A n c, v = .slice A n c ∧ n ≤ c ∧ c ≤ maxLen ∧ ∀ i, i < n → ∃ a m, A = some a ∧ ∀ (j : Nat) (f : Field), fs[j]? = some f → ∃ (x : Value) (y : DataW H × List MemPlace), w.cell? (a.add (i * fs.size + j)) = some x ∧ DataW.trod enc P w base spare held m f.type [x] = some y := by
  obtain ⟨A, n, c, rfl⟩ := okWide_slice ht hv
  obtain ⟨fuel, hf⟩ := h
  rcases open_slice ht hf with ⟨h0, _⟩ | ⟨a, len, cap, m, nn, D, Pl, hcs, _, hl, hm, hmm, _, hi⟩
  · simp [Value.cells] at h0
    obtain ⟨rfl, rfl, rfl⟩ := h0
    exact ⟨none, 0, 0, rfl, Nat.le_refl _, Nat.zero_le _, fun i hi => absurd hi (by omega)⟩
  · simp [Value.cells] at hcs
    obtain ⟨rfl, rfl, rfl⟩ := hcs
    refine ⟨some a, n, c, rfl, hl, hm, fun i hin => ?_⟩
    have him : i < m := by rw [hmm]; split <;> omega
    obtain ⟨cs', hc, ht'⟩ := hi i him
    rw [hC] at hc
    obtain ⟨ys, n', _, _, hlen, hyl, hff⟩ := DataW.trod_struct he ht'
    obtain ⟨_, hcl, hat⟩ := World.cells?_some hc
    refine ⟨a, n', rfl, fun j f hj => ?_⟩
    obtain ⟨ho, hk⟩ := hone_of hone j f hj
    have hjl : j < fs.size := (Array.getElem?_eq_some_iff.1 hj).1
    have hcell := hat j hjl
    have hvj : cs'[j]? = some (cs'[j]'(by omega)) := List.getElem?_eq_getElem (by omega)
    have h1 := hff j f hj
    rw [ho, hk] at h1
    have hone' : (cs'.drop j).take 1 = [cs'[j]'(by omega)] := by
      rw [List.drop_eq_getElem_cons (by omega)]
      rfl
    rw [hone'] at h1
    have hys : ys[j]? = some (ys[j]'(by omega)) := List.getElem?_eq_getElem (by omega)
    exact ⟨_, _, by rw [← Go.Deep.add_add, hcell, hvj], h1.trans hys⟩
end

theorem add_more (a : Addr) (i j : Nat) (hj : j ≠ 0) : a.add (i + j) = ⟨(a.add i).block, (a.add i).off + j, none⟩ := by
  unfold Addr.add
  by_cases hi : i = 0
  · subst hi; simp [hj]
  · simp [hi, Nat.add_assoc]

/-- A slice of two numbers each, as it came in: nil let in. -/
def RdA (w : World) (A : Option Addr) (n : Nat) : Prop :=
  ∀ i, i < n → ∃ ad x0 x1, A = some ad ∧ -9223372036854775808 ≤ x1 ∧ x1 ≤ 9223372036854775807 ∧
    ∀ w', Below w.heap.size w w' → w'.cell? (ad.add (i * 2)) = some (.int .i64 x0) ∧ w'.cell? ⟨(ad.add (i * 2)).block, (ad.add (i * 2)).off + 1, none⟩ = some (.int .i64 x1)

theorem open_pairs {H : Type} {enc : TypeId × Value → H} {P : Program} {w : World} {base : Nat} {spare : Nat → Bool} {held : Bool} {r : Reach} {b0 : Nat} {t e ti : TypeId} {f0 f1 : Field} {v : Value} {d : DataW H} {p : List MemPlace}
    (ht : P.underlying t = some (.slice e)) (he : P.underlying e = some (.struct #[f0, f1])) (hone : oneCellFields P #[f0, f1] = true) (hC : P.cellsOf e = 2) (hi : P.underlying ti = some (.int .i64)) (h0 : f0.type = ti) (h1 : f1.type = ti)
    (hv : Value.okWide P w r b0 t v) (h : DataW.Trod enc P w base spare held t v d p) :
    ∃ A n c, v = .slice A n c ∧ n ≤ c ∧ c ≤ maxLen ∧ RdA w A n := by
  obtain ⟨A, n, c, rfl, hn, hc, hj⟩ := open_structs ht he hone hC hv h
  refine ⟨A, n, c, rfl, hn, hc, fun i hin => ?_⟩
  obtain ⟨a, m, rfl, hf⟩ := hj i hin
  obtain ⟨v0, y0, e0, t0⟩ := hf 0 f0 rfl
  obtain ⟨v1, y1, e1, t1⟩ := hf 1 f1 rfl
  obtain ⟨n0, k0, _, _⟩ := DataW.trod_int (by rw [h0]; exact hi) t0
  obtain ⟨n1, k1, _, w1⟩ := DataW.trod_int (by rw [h1]; exact hi) t1
  simp only [List.cons.injEq, and_true] at k0 k1
  subst k0 k1
  have kb : -9223372036854775808 ≤ n1 ∧ n1 ≤ 9223372036854775807 := bounds_int w1
  have hlt : a.block < w.heap.size := by have := cell_lt e0; rwa [block_of_add] at this
  change w.cell? (a.add (i * 2 + 0)) = _ at e0
  change w.cell? (a.add (i * 2 + 1)) = _ at e1
  rw [Nat.add_zero] at e0
  rw [add_more _ _ _ (by omega)] at e1
  have eb : (a.add (i * 2)).block = a.block := by unfold Addr.add; split <;> rfl
  exact ⟨a, n0, n1, rfl, kb.1, kb.2, fun w' hb => ⟨(hb.cell (p := a.add (i * 2)) (by rw [eb]; exact hlt)).trans e0, (hb.cell (p := ⟨(a.add (i * 2)).block, (a.add (i * 2)).off + 1, none⟩) (by rw [eb]; exact hlt)).trans e1⟩⟩
end Go.Proofs.YthmhehehomieiaaGreat

/- An entry of a script, and a slice of them, as arguments. -/
namespace Go.Proofs.YthmhehehomieiaaGreat
open Go.RowKit Go.ChangeShapes Go.WideShapes Go.Deep

/-- A number of the kind int. -/
def InI (n : Int) : Prop := -9223372036854775808 ≤ n ∧ n ≤ 9223372036854775807

set_option maxRecDepth 100000 in
theorem open_step {H : Type} {enc : TypeId × Value → H} {w : World} {base : Nat} {spare : Nat → Bool} {held : Bool} {r : Reach} {b0 : Nat} {v : Value} {d : DataW H} {p : List MemPlace}
    (hv : Value.okWide Tryz.prog w r b0 53 v) (h : DataW.Trod enc Tryz.prog w base spare held 53 v d p) :
    ∃ k a b c x : Int, v = sgV k a b c x ∧ InI b ∧ InI c := by
  obtain ⟨l, rfl, hl, m, hf⟩ := open_cells Tryz.underlying53 (by kernel_rfl) (by kernel_rfl) hv h
  obtain ⟨c0, y0, e0, t0⟩ := hf 0 _ rfl
  obtain ⟨c1, y1, e1, t1⟩ := hf 1 _ rfl
  obtain ⟨c2, y2, e2, t2⟩ := hf 2 _ rfl
  obtain ⟨c3, y3, e3, t3⟩ := hf 3 _ rfl
  obtain ⟨c4, y4, e4, t4⟩ := hf 4 _ rfl
  obtain ⟨n0, h0, _, _⟩ := DataW.trod_int Tryz.underlying3 t0
  obtain ⟨n1, h1, _, _⟩ := DataW.trod_int Tryz.underlying3 t1
  obtain ⟨n2, h2, _, w2⟩ := DataW.trod_int Tryz.underlying3 t2
  obtain ⟨n3, h3, _, w3⟩ := DataW.trod_int Tryz.underlying3 t3
  obtain ⟨n4, h4, _, _⟩ := DataW.trod_int Tryz.underlying51 t4
  simp only [List.cons.injEq, and_true] at h0 h1 h2 h3 h4
  subst h0 h1 h2 h3 h4
  refine ⟨n0, n1, n2, n3, n4, ?_, bounds_int w2, bounds_int w3⟩
  have hl5 : l.length = 5 := hl
  match l, hl5 with
  | [a0, a1, a2, a3, a4], _ =>
    simp at e0 e1 e2 e3 e4
    subst e0 e1 e2 e3 e4
    rfl

/-- A slice of entries as it came in: nil let in. -/
def RdSt (w : World) (A : Option Addr) (n : Nat) : Prop :=
  ∀ i, i < n → ∃ ad k a b c x, A = some ad ∧ InI b ∧ InI c ∧ ∀ w', Below w.heap.size w w' →
    w'.cell? (ad.add (i * 5)) = some (.int .i64 k) ∧ w'.cell? ⟨(ad.add (i * 5)).block, (ad.add (i * 5)).off + 1, none⟩ = some (.int .i64 a) ∧ w'.cell? ⟨(ad.add (i * 5)).block, (ad.add (i * 5)).off + 2, none⟩ = some (.int .i64 b) ∧
    w'.cell? ⟨(ad.add (i * 5)).block, (ad.add (i * 5)).off + 3, none⟩ = some (.int .i64 c) ∧ w'.cell? ⟨(ad.add (i * 5)).block, (ad.add (i * 5)).off + 4, none⟩ = some (.int .u64 x)

set_option maxRecDepth 100000 in
theorem open_steps {H : Type} {enc : TypeId × Value → H} {w : World} {base : Nat} {spare : Nat → Bool} {held : Bool} {r : Reach} {b0 : Nat} {v : Value} {d : DataW H} {p : List MemPlace}
    (hv : Value.okWide Tryz.prog w r b0 47 v) (h : DataW.Trod enc Tryz.prog w base spare held 47 v d p) :
    ∃ A n c, v = .slice A n c ∧ n ≤ c ∧ c ≤ maxLen ∧ RdSt w A n := by
  obtain ⟨A, n, c, rfl, hn, hc, hi⟩ := open_structs Tryz.underlying47 Tryz.underlying53 (by kernel_rfl) (by kernel_rfl) hv h
  refine ⟨A, n, c, rfl, hn, hc, fun i hin => ?_⟩
  obtain ⟨a, m, rfl, hf⟩ := hi i hin
  obtain ⟨v0, y0, e0, t0⟩ := hf 0 _ rfl
  obtain ⟨v1, y1, e1, t1⟩ := hf 1 _ rfl
  obtain ⟨v2, y2, e2, t2⟩ := hf 2 _ rfl
  obtain ⟨v3, y3, e3, t3⟩ := hf 3 _ rfl
  obtain ⟨v4, y4, e4, t4⟩ := hf 4 _ rfl
  obtain ⟨n0, h0, _, _⟩ := DataW.trod_int Tryz.underlying3 t0
  obtain ⟨n1, h1, _, _⟩ := DataW.trod_int Tryz.underlying3 t1
  obtain ⟨n2, h2, _, w2⟩ := DataW.trod_int Tryz.underlying3 t2
  obtain ⟨n3, h3, _, w3⟩ := DataW.trod_int Tryz.underlying3 t3
  obtain ⟨n4, h4, _, _⟩ := DataW.trod_int Tryz.underlying51 t4
  simp only [List.cons.injEq, and_true] at h0 h1 h2 h3 h4
  subst h0 h1 h2 h3 h4
  have hlt : a.block < w.heap.size := by have := cell_lt e0; rwa [block_of_add] at this
  change w.cell? (a.add (i * 5 + 0)) = _ at e0
  change w.cell? (a.add (i * 5 + 1)) = _ at e1
  change w.cell? (a.add (i * 5 + 2)) = _ at e2
  change w.cell? (a.add (i * 5 + 3)) = _ at e3
  change w.cell? (a.add (i * 5 + 4)) = _ at e4
  rw [Nat.add_zero] at e0
  rw [add_more _ _ _ (by omega)] at e1 e2 e3 e4
  have eb : (a.add (i * 5)).block = a.block := block_of_add _ _
  exact ⟨a, n0, n1, n2, n3, n4, rfl, bounds_int w2, bounds_int w3, fun w' hb => ⟨(hb.cell (p := a.add (i * 5)) (by rw [eb]; exact hlt)).trans e0,
    (hb.cell (p := ⟨(a.add (i * 5)).block, (a.add (i * 5)).off + 1, none⟩) (by rw [eb]; exact hlt)).trans e1, (hb.cell (p := ⟨(a.add (i * 5)).block, (a.add (i * 5)).off + 2, none⟩) (by rw [eb]; exact hlt)).trans e2,
    (hb.cell (p := ⟨(a.add (i * 5)).block, (a.add (i * 5)).off + 3, none⟩) (by rw [eb]; exact hlt)).trans e3, (hb.cell (p := ⟨(a.add (i * 5)).block, (a.add (i * 5)).off + 4, none⟩) (by rw [eb]; exact hlt)).trans e4⟩⟩
end Go.Proofs.YthmhehehomieiaaGreat

/- What the walks over scripts share; the walk of CoreCopies. -/
namespace Go.Proofs.YthmhehehomieiaaGreat
open Go.RowKit

theorem change_len (G : Gr) (k a b c v : Int) : (G.change k a b c v).2.hs.length = G.hs.length := by
  unfold Gr.change Gr.hold Gr.setNode
  repeat' split
  all_goals simp
theorem doG_len (nu : Int) (G : Gr) (k a p q v : Int) : (doG nu G k a p q v).hs.length = G.hs.length := by
  unfold doG stG
  split
  · split
    · rfl
    · exact change_len _ _ _ _ _ _
  · rfl

/-- Two handles are there. -/
theorem Gr.two {G : Gr} (h : 2 ≤ G.hs.length) : ∃ ns x0 x1 r lg, G = ⟨ns, x0 :: x1 :: r, lg⟩ := by
  obtain ⟨ns, hs, lg⟩ := G
  match hs, h with
  | x0 :: x1 :: r, _ => exact ⟨ns, x0, x1, r, lg, rfl⟩

section
variable (ns : List Node2) (x0 x1 : Int) (r : List Int) (lg : Int)
theorem two_has0 : (Gr.mk ns (x0 :: x1 :: r) lg).has 0 = true := by simp [Gr.has]; omega
theorem two_has1 : (Gr.mk ns (x0 :: x1 :: r) lg).has 1 = true := by simp [Gr.has]; omega
theorem two_held0 : (Gr.mk ns (x0 :: x1 :: r) lg).held 0 = x0 := rfl
theorem two_held1 : (Gr.mk ns (x0 :: x1 :: r) lg).held 1 = x1 := rfl
theorem two_copy : (Gr.mk ns (x0 :: x1 :: r) lg).change 7 0 1 0 0 = (0, ⟨ns, x1 :: x1 :: r, lg⟩) := by
  unfold Gr.change
  simp only [two_has0, two_has1]
  rfl
theorem two_clear1 : (Gr.mk ns (x0 :: x1 :: r) lg).change 6 1 0 0 0 = (0, ⟨ns, x0 :: 0 :: r, lg⟩) := by
  unfold Gr.change
  simp only [two_has1]
  rfl
theorem two_same : (Gr.mk ns (x0 :: x1 :: r) lg).ask 8 0 1 = (0, x0 == x1, 0, 0) := by
  unfold Gr.ask
  simp only [two_has0, two_has1]
  rfl
theorem two_nil0 : (Gr.mk ns (x0 :: x1 :: r) lg).ask 9 0 0 = (0, x0 == 0, 0, 0) := by
  unfold Gr.ask
  simp only [two_has0]
  rfl
theorem two_nil1 : (Gr.mk ns (x0 :: x1 :: r) lg).ask 9 1 0 = (0, x1 == 0, 0, 0) := by
  unfold Gr.ask
  simp only [two_has1]
  rfl
end

/-- The core holds a graph with so many handles. -/
def Kl (w0 w : World) (Z : Nat → Prop) (b : Nat) (c : Cfg) (n : Nat) : Prop := ∃ G, Kg w0 w Z b c G ∧ G.hs.length = n

set_option maxHeartbeats 8000000 in
set_option maxRecDepth 100000 in
theorem coreCopies_walk (a b c d : Int) (ha : By a) (hb : By b) (hc : By c) (hd : By d) (A : Option Addr) (n cp : Nat) (w : World) (rd : RdSt w A n) (_ : n ≤ cp) (_ : cp ≤ maxLen) :
    Calls Tryz.prog 10 #[.int .u8 a, .int .u8 b, .int .u8 c, .int .u8 d, .slice A n cp] w fun e w' => e = .returned (.bool true) ∧ Below w.heap.size w w' := by
  have HC := Lib.hid (config_any a b c d ha hb hc hd)
  have HM := Lib.hid (cfgOf_may a b c d ha hb hc hd)
  have HH := Lib.hid (show (Gr.none_ (cfgOf a b c d)).hs.length = (cfgOf a b c d).ha.toNat from zeros_length _)
  have H2 := Lib.hid (show 2 ≤ (cfgOf a b c d).ha.toNat from by show 2 ≤ (a % 5 + 2).toNat; have := ha.1; omega)
  have RD := Lib.hid rd
  clear ha hb hc hd rd
  generalize cfgOf a b c d = cf at *
  go_enter Tryz.func10, Tryz.ntmps10
  go_wp2_with fail
  refine (HC.out _).mono ?_
  rintro e w1 ⟨rfl, b1⟩
  have HN := Lib.hid (kg_new (w0 := w) (Z := noZ) HM.out b1 (fun _ e => e.elim))
  clear b1 HC
  go_wp2_with fail
  refine HN.out.mono ?_
  rintro e w2 ⟨b, rfl, k2, _⟩
  have K2 := Lib.hid k2
  clear k2 HN HM
  go_wp2_with fail
  refine (awake13_walk _).mono ?_
  rintro e w3 ⟨rfl, b3⟩
  have KL := Lib.hid (show Kl w w3 noZ b cf cf.ha.toNat from ⟨_, K2.out.keep b3, HH.out⟩)
  clear b3 K2 HH
  go_wp2_with fail
  go_loopw [13] (fun s wr => ∃ (i : Nat), i ≤ n ∧ i ≤ 60 ∧ s = .int .i64 i ∧ Hid (Kl w wr noZ b cf cf.ha.toNat)) (fun s _ => n - (intOf s).toNat)
  case atStart => exact ⟨0, Nat.zero_le _, Nat.zero_le _, rfl, KL⟩
  case round =>
    clear KL
    obtain ⟨i, hi, hi2, rfl, KL⟩ := hrel
    by_cases hlt : i < n ∧ i < 60
    · obtain ⟨h1, h2⟩ := hlt
      obtain ⟨ad, k, x, p, q, v, rfl, _, iq, hcell⟩ := RD.out i h1
      obtain ⟨G, HG, hL⟩ := KL.out
      obtain ⟨c0, c1, c2, c3, c4⟩ := hcell _ HG.bel
      have HD := Lib.hid (kg_do HG k x p q v iq.2)
      have hL := Lib.hid ((doG_len cf.nu G k x p q v).trans hL)
      have h3 : (i : Int) < (n : Int) := by omega
      have h4 : (i : Int) < 60 := by omega
      have h5 : (0 : Int) ≤ (i : Int) := by omega
      clear KL HG hcell
      go_wp2_with fail
      refine HD.out.mono ?_
      rintro e w2 ⟨rfl, k2, _⟩
      have KN := Lib.hid (show Kl w w2 noZ b cf cf.ha.toNat from ⟨_, k2, hL.out⟩)
      clear k2 HD hL c0 c1 c2 c3 c4
      go_wp2
      go_roundw
      case rel => exact ⟨i + 1, by omega, by omega, by go_num, KN⟩
      case measure => simp [intOf]; omega
    · have hlt : ((i : Int) < (n : Int) ∧ ¬ ((i : Int) < 60)) ∨ ¬ ((i : Int) < (n : Int)) := by omega
      generalize wr = wo at *
      clear RD hi hi2
      obtain ⟨G, HG, hL⟩ := KL.out
      obtain ⟨ns, x0, x1, r, lg, rfl⟩ := Gr.two (G := G) (by rw [hL]; exact H2.out)
      have K := Lib.hid HG
      have HS := Lib.hid (kg_stats HG)
      clear KL HG hL H2
      simp only at HS
      obtain ⟨m1, hm1⟩ : ∃ m1 : Int, (ns.length : Int) = m1 := ⟨_, rfl⟩
      obtain ⟨m2, hm2⟩ : ∃ m2 : Int, (tot ns : Int) = m2 := ⟨_, rfl⟩
      rw [hm1, hm2] at HS
      have HM := Lib.hid (And.intro hm1 hm2)
      clear hm1 hm2
      rcases hlt with ⟨g1, g2⟩ | g1
      all_goals
        go_wp2_with fail
        refine HS.out.mono ?_
        rintro e w4 ⟨rfl, b4⟩
        have K4 := Lib.hid ((K.out.keep b4).grow (Z' := fun k => k = w4.heap.size) ((Below.refl _ w4).alloc (Nat.le_refl _) (stO8 m1 m2 0 0 0 m2 0 (cf.ps * cf.pz))) (fun k e => .inr ⟨by omega, by subst e; simp⟩))
        have X4 := Lib.hid (Blk.new w4 (stL8 m1 m2 0 0 0 m2 0 (cf.ps * cf.pz)) 31)
        clear b4 HS K
        go_wp2_with fail
        have h := kg_copy K4.out 0 1
        rw [two_copy] at h
        refine h.mono ?_
        rintro e w5 ⟨rfl, k5, p5⟩
        have K5 := Lib.hid k5
        have X5 := Lib.hid (X4.out.kp p5 rfl)
        clear h k5 p5 K4 X4
        go_wp2_with fail
        have h := kg_same K5.out 0 1
        rw [two_same, beq_self_eq_true] at h
        refine h.mono ?_
        rintro e w6 ⟨rfl, rfl⟩
        clear h
        go_wp2_with fail
        have h := kg_nil K5.out 1
        rw [two_nil1] at h
        obtain ⟨nb, hnb⟩ : ∃ nb, (x1 == 0) = nb := ⟨_, rfl⟩
        rw [hnb] at h
        have NB := Lib.hid hnb
        clear hnb
        refine h.mono ?_
        rintro e w6 ⟨rfl, rfl⟩
        clear h
        go_wp2_with fail
        have K5 := K5.out.keep (below_drew w5)
        have X5 := X5.out.drew
        have X5' := X5
        go_region_held3 (fun w' => w'.cell? ⟨w4.heap.size, 0, none⟩ = some (.int .i64 m1) ∧ w'.cell? ⟨w4.heap.size, 1, none⟩ = some (.int .i64 m2) ∧ w'.cell? ⟨w4.heap.size, 2, none⟩ = some (.int .i64 0) ∧ w'.cell? ⟨w4.heap.size, 3, none⟩ = some (.int .i64 0) ∧ w'.cell? ⟨w4.heap.size, 4, none⟩ = some (.int .i64 0) ∧ w'.cell? ⟨w4.heap.size, 5, none⟩ = some (.int .i64 m2) ∧ w'.cell? ⟨w4.heap.size, 6, none⟩ = some (.int .i64 0) ∧ w'.cell? ⟨w4.heap.size, 7, none⟩ = some (.int .i64 (cf.ps * cf.pz))) (exact ⟨X5.cell 0, X5.cell 1, X5.cell 2, X5.cell 3, X5.cell 4, X5.cell 5, X5.cell 6, X5.cell 7⟩) (first
          | (go_at_call 20; have h := kg_stats K5; simp only at h; rw [HM.out.1, HM.out.2] at h; refine h.mono ?_; rintro e v1 ⟨rfl, b2⟩; have K5 := K5.keep b2; have X5 := X5.keep b2; clear b2 h))
        all_goals
          rename_i v1 _ _
          have K6 := Lib.hid K5
          clear K5 X5
          go_wp2_with fail
          have h := kg_clear K6.out 1
          rw [two_clear1] at h
          refine h.mono ?_
          rintro e w7 ⟨rfl, k7, _⟩
          have K7 := Lib.hid k7
          clear h k7 K6
          go_wp2_with fail
          have h := kg_same K7.out 0 1
          rw [two_same, NB.out] at h
          refine h.mono ?_
          rintro e w8 ⟨rfl, rfl⟩
          clear h
          go_wp2
          go_ret
          exact ⟨by simp, K7.out.bel⟩
end Go.Proofs.YthmhehehomieiaaGreat

/- Contracts of the document's graph: Get, Set, Write. -/
namespace Go.Proofs.YthmhehehomieiaaGreat
open Go.RowKit

theorem Rg.intro {w : World} {g : Nat} {G : Gr} {vN : Value} {hA : Option Addr} {hc : Nat} {nd : List Nd} (h : IsG w g vN hA hc nd G.hs G.lg) (e : G.ns = nd.map Nd.two) : Rg w g (gOwn g vN hA nd) G := ⟨vN, hA, hc, nd, h, e, rfl⟩

set_option maxRecDepth 100000 in
set_option maxHeartbeats 8000000 in
theorem rgGet (w : World) (g : Nat) (S : Nat → Prop) (G : Gr) (a b c v : Int) (r : Rg w g S G) : Calls Tryz.prog 71 #[.pointer (some ⟨g, 0, none⟩), sgV 2 a b c v] w fun e w' => ChR w g S G 2 a b c v e w' := by
  have al : Below w.heap.size w (w.alloc (stB 2 a b c v)) := (Below.refl _ _).alloc (Nat.le_refl _) _
  have HW := Lib.hid (rgWrong_any _ g S G b (r.keep al))
  have HH := Lib.hid (rgHas_any _ g S G a (r.keep al))
  by_cases hw : G.wrong b = 0
  · rw [hw] at HW
    cases ha : G.has a
    · rw [ha] at HH
      have HE := Lib.hid (chR_err (k := 2) (a := a) (b := b) (c := c) (v := v) (x := 3) r al (by simp [Gr.change, hw, ha]))
      clear r hw ha al
      go_enter Tryz.func71, Tryz.ntmps71
      go_wp2_with fail
      refine HW.out.mono ?_
      rintro e w1 ⟨rfl, rfl⟩
      go_wp2_with fail
      refine HH.out.mono ?_
      rintro e w1 ⟨rfl, rfl⟩
      go_wp2
      go_ret
      exact HE.out
    · rw [ha] at HH
      obtain ⟨hb, hn⟩ := wrong_zero hw
      obtain ⟨i, x, rfl, hl, hx, hv, x0, x1⟩ := r.at_ ha
      obtain ⟨j, y, rfl, jl, hy, yv, y0, y1⟩ := r.at_ hb
      obtain ⟨vN, hA, hc, nd, hi, eN, rfl⟩ := r
      rw [yv] at hn
      obtain ⟨p, z, rfl, hz, ez, ep⟩ := node_at eN (x := y) (by omega) (by rw [eN, List.length_map] at y1; exact y1)
      have hk := hi.keep al
      obtain ⟨q, off, rfl, _, hcx, hfz⟩ := hk.hrow.at_ (by omega)
      obtain ⟨nb, nc, cur, rfl, hnb, n1, n2, hcn⟩ := hk.row
      have cy := hcx j _ hy
      have z0 : (w.alloc (stB 2 i j c v)).cell? ⟨nb, (p + 1) * 2, none⟩ = some (.slice (some ⟨z.pb, 0, none⟩) z.ps.length z.ps.length) := by rw [hnb.cell]; exact hcn p 0 z hz (by decide)
      have z1 : (w.alloc (stB 2 i j c v)).cell? ⟨nb, (p + 1) * 2 + 1, none⟩ = some (.slice (some ⟨z.sb, 0, none⟩) z.ss.length z.ss.length) := by rw [hnb.cell]; exact hcn p 1 z hz (by decide)
      have kb := Blk.new w #[.int .i64 2, .int .i64 i, .int .i64 j, .int .i64 c, .int .u64 v] 53
      have hf := hi.hfew
      have hp : p + 1 < nd.length + 1 := by have := (List.getElem?_eq_some_iff.1 hz).1; omega
      have few : nd.length + 1 ≤ 1048577 := by have := hi.few; omega
      have zs := hi.size z (List.mem_of_getElem? hz)
      obtain ⟨c0, c1, c2, cf⟩ := hk.four
      have lg := hk.blk.lt
      have ln := hnb.lt
      have ls := kb.lt
      have s0 := kb.cell 0
      have s1 := kb.cell 1
      have s2 := kb.cell 2
      have s3 := kb.cell 3
      have s4 := kb.cell 4
      have sf := kb.frozen
      have HX := Lib.hid (gx_make hi 2 i j c v z)
      have HI := Lib.hid (Rg.intro hi eN)
      unfold maxLen at n2
      obtain ⟨N, hN⟩ : ∃ N, nd.length + 1 = N := ⟨_, rfl⟩
      obtain ⟨P, hP⟩ : ∃ P, p + 1 = P := ⟨_, rfl⟩
      obtain ⟨n, hn2⟩ : ∃ n, G.hs.length = n := ⟨_, rfl⟩
      rw [hN] at c0 hp few n1
      rw [hP] at cy z0 z1 hp
      rw [hn2] at c1 jl hf hl
      have HN := Lib.hid (And.intro hN (And.intro hP hn2))
      have HK := Lib.hid (And.intro eN (And.intro ez (And.intro ep (And.intro hz (And.intro yv hw)))))
      have HV := Lib.hid (And.intro hx (And.intro hv (And.intro x0 (And.intro x1 ha))))
      clear hcx hcn kb hnb hk hi eN ez ep hz yv hw hb hn hy y0 y1 hN hP hn2 al hx hv x0 x1 ha
      go_enter Tryz.func71, Tryz.ntmps71
      go_wp2_with fail
      refine HW.out.mono ?_
      rintro e w1 ⟨rfl, rfl⟩
      go_wp2_with fail
      refine HH.out.mono ?_
      rintro e w1 ⟨rfl, rfl⟩
      generalize hW : w.alloc (stB 2 i j c v) = W at *
      clear hW
      go_wp2_with fail
      go_region
      clear z0 z1 c0 c1 c2 cf cy s0 s1 s2 s3 s4 sf hfz lg ln ls HW HH
      generalize (W.alloc (.cells #[.slice (some ⟨z.pb, 0, none⟩) z.ps.length z.ps.length, .slice (some ⟨z.sb, 0, none⟩) z.ss.length z.ss.length] 120)).drew = V at HX ⊢
      generalize W.heap.size = nbk at HX ⊢
      generalize w.heap.size = sbk at HX ⊢
      have hmz : z ∈ nd := List.mem_of_getElem? HK.out.2.2.2.1
      obtain ⟨c0, c1, c2, cf⟩ := HX.out.isg.four
      rw [HN.out.2.2] at c1
      have lg := HX.out.isg.blk.lt
      have ls := HX.out.st.lt
      have ln := HX.out.nb.lt
      have s1 := HX.out.st.cell 1
      have s2 := HX.out.st.cell 2
      have s3 := HX.out.st.cell 3
      have s4 := HX.out.st.cell 4
      obtain ⟨mm, hmm⟩ : ∃ mm, z.ps.length = mm := ⟨_, rfl⟩
      have m64 : mm ≤ 64 := by have := zs; omega
      have d0 : V.cell? ⟨nbk, 0, none⟩ = some (.slice (some ⟨z.pb, 0, none⟩) mm mm) := by rw [HX.out.nb.cell 0, ← hmm]; rfl
      clear c0 c2 zs
      by_cases hfi : 0 ≤ c ∧ c < mm
      · obtain ⟨F, rfl⟩ : ∃ F : Nat, c = F := ⟨c.toNat, by omega⟩
        have fl : F < mm := by omega
        obtain ⟨u, hu⟩ : ∃ u, z.ps[F]? = some u := ⟨_, List.getElem?_eq_getElem (by omega)⟩
        have pc : V.cell? ⟨z.pb, F, none⟩ = some (.int .i64 u) := by rw [(HX.out.isg.ptr z hmz).cell]; simp [ints, hu]
        have pf : ∀ k, V.frozen? ⟨z.pb, k, none⟩ = false := (HX.out.isg.ptr z hmz).frozen
        have lp := (HX.out.isg.ptr z hmz).lt
        obtain ⟨q2, off2, eq, lq, hcx, hfz⟩ := HX.out.isg.hrow.at_ (by have := HN.out.2.2; omega)
        cases eq
        have cx := hcx i x HV.out.1
        clear hcx
        have uin := HX.out.isg.pin z hmz u (List.mem_of_getElem? hu)
        have ec : G.change 2 i j F v = (0, G.hold i u) := by
          unfold Gr.change
          rw [if_neg (by decide), if_pos rfl, if_pos HK.out.2.2.2.2.2, if_pos HV.out.2.2.2.2, HK.out.2.2.2.2.1, HK.out.2.1, if_pos ⟨by omega, by simp only [hmm]; omega⟩, Int.toNat_natCast, List.getD_eq_getElem?_getD, hu]
          rfl
        have HE := Lib.hid (fun (w' : World) (f : Below V.heap.size V w') => (show ChR w g _ G 2 i j F v (.returned (.int .i64 0)) (w'.setCell ⟨q, off + i, none⟩ (.int .i64 u)) from by
          obtain ⟨h1, mv⟩ := (HX.out.isg.keep f).hold i u uin.1 uin.2
          unfold ChR
          rw [ec]
          exact ⟨rfl, _, ⟨_, _, hc, nd, by unfold Gr.hold; rw [Int.toNat_natCast]; exact h1, HK.out.1, rfl⟩, Mv.pre (below_trans HX.out.bel f) mv⟩))
        clear uin ec
        clear HX HI HN HK hu hmm hmz HV
        go_wp2_with fail
        go_region
        go_wp2
        go_ret
        exact HE.out _ (below_drew _)
      · have ec : G.change 2 i j c v = (5, G) := by
          unfold Gr.change
          rw [if_neg (by decide), if_pos rfl, if_pos HK.out.2.2.2.2.2, if_pos HV.out.2.2.2.2, HK.out.2.2.2.2.1, HK.out.2.1, if_neg (by simp only [hmm]; exact hfi)]
        have HE := Lib.hid (chR_err HI.out HX.out.bel ec)
        clear HX HI HN HK hmm hmz ec HV
        by_cases hz0 : c < 0
        · go_wp2
          go_ret
          exact HE.out
        · have hz1 : (mm : Int) ≤ c := by omega
          go_wp2
          go_ret
          exact HE.out
  · have HE := Lib.hid (chR_err (k := 2) (a := a) (b := b) (c := c) (v := v) (x := G.wrong b) r al (by simp [Gr.change, hw]))
    generalize G.wrong b = eb at HW HE hw
    clear r al HH
    go_enter Tryz.func71, Tryz.ntmps71
    go_wp2_with fail
    refine HW.out.mono ?_
    rintro e w1 ⟨rfl, rfl⟩
    go_wp2
    go_ret
    exact HE.out

set_option maxRecDepth 100000 in
set_option maxHeartbeats 8000000 in
theorem rgSet (w : World) (g : Nat) (S : Nat → Prop) (G : Gr) (a b c v : Int) (r : Rg w g S G) : Calls Tryz.prog 71 #[.pointer (some ⟨g, 0, none⟩), sgV 3 a b c v] w fun e w' => ChR w g S G 3 a b c v e w' := by
  have al : Below w.heap.size w (w.alloc (stB 3 a b c v)) := (Below.refl _ _).alloc (Nat.le_refl _) _
  have HW := Lib.hid (rgWrong_any _ g S G a (r.keep al))
  have HH := Lib.hid (rgHas_any _ g S G c (r.keep al))
  by_cases hw : G.wrong a = 0
  · rw [hw] at HW
    cases ha : G.has c
    · rw [ha] at HH
      have HE := Lib.hid (chR_err (k := 3) (a := a) (b := b) (c := c) (v := v) (x := 3) r al (by simp [Gr.change, hw, ha]))
      clear r hw ha al
      go_enter Tryz.func71, Tryz.ntmps71
      go_wp2_with fail
      refine HW.out.mono ?_
      rintro e w1 ⟨rfl, rfl⟩
      go_wp2_with fail
      refine HH.out.mono ?_
      rintro e w1 ⟨rfl, rfl⟩
      go_wp2
      go_ret
      exact HE.out
    · rw [ha] at HH
      obtain ⟨hb, hn⟩ := wrong_zero hw
      obtain ⟨i, x, rfl, hl, hx, hv, x0, x1⟩ := r.at_ ha
      obtain ⟨j, y, rfl, jl, hy, yv, y0, y1⟩ := r.at_ hb
      obtain ⟨vN, hA, hc, nd, hi, eN, rfl⟩ := r
      rw [yv] at hn
      obtain ⟨p, z, rfl, hz, ez, ep⟩ := node_at eN (x := y) (by omega) (by rw [eN, List.length_map] at y1; exact y1)
      have hk := hi.keep al
      obtain ⟨q, off, rfl, _, hcx, hfz⟩ := hk.hrow.at_ (by omega)
      obtain ⟨nb, nc, cur, rfl, hnb, n1, n2, hcn⟩ := hk.row
      have cy := hcx j _ hy
      have z0 : (w.alloc (stB 3 j b i v)).cell? ⟨nb, (p + 1) * 2, none⟩ = some (.slice (some ⟨z.pb, 0, none⟩) z.ps.length z.ps.length) := by rw [hnb.cell]; exact hcn p 0 z hz (by decide)
      have z1 : (w.alloc (stB 3 j b i v)).cell? ⟨nb, (p + 1) * 2 + 1, none⟩ = some (.slice (some ⟨z.sb, 0, none⟩) z.ss.length z.ss.length) := by rw [hnb.cell]; exact hcn p 1 z hz (by decide)
      have kb := Blk.new w #[.int .i64 3, .int .i64 j, .int .i64 b, .int .i64 i, .int .u64 v] 53
      have hf := hi.hfew
      have hp : p + 1 < nd.length + 1 := by have := (List.getElem?_eq_some_iff.1 hz).1; omega
      have few : nd.length + 1 ≤ 1048577 := by have := hi.few; omega
      have zs := hi.size z (List.mem_of_getElem? hz)
      obtain ⟨c0, c1, c2, cf⟩ := hk.four
      have lg := hk.blk.lt
      have ln := hnb.lt
      have ls := kb.lt
      have s0 := kb.cell 0
      have s1 := kb.cell 1
      have s2 := kb.cell 2
      have s3 := kb.cell 3
      have s4 := kb.cell 4
      have sf := kb.frozen
      have HX := Lib.hid (gx_make hi 3 j b i v z)
      have HI := Lib.hid (Rg.intro hi eN)
      unfold maxLen at n2
      obtain ⟨N, hN⟩ : ∃ N, nd.length + 1 = N := ⟨_, rfl⟩
      obtain ⟨P, hP⟩ : ∃ P, p + 1 = P := ⟨_, rfl⟩
      obtain ⟨n, hn2⟩ : ∃ n, G.hs.length = n := ⟨_, rfl⟩
      rw [hN] at c0 hp few n1
      rw [hP] at cy z0 z1 hp
      rw [hn2] at c1 jl hf hl
      have HN := Lib.hid (And.intro hN (And.intro hP hn2))
      have HK := Lib.hid (And.intro eN (And.intro ez (And.intro ep (And.intro hz (And.intro yv hw)))))
      have HV := Lib.hid (And.intro hx (And.intro hv (And.intro x0 (And.intro x1 ha))))
      clear hcx hcn kb hnb hk hi eN ez ep hz yv hw hb hn hy y0 y1 hN hP hn2 al hx hv x0 x1 ha
      go_enter Tryz.func71, Tryz.ntmps71
      go_wp2_with fail
      refine HW.out.mono ?_
      rintro e w1 ⟨rfl, rfl⟩
      go_wp2_with fail
      refine HH.out.mono ?_
      rintro e w1 ⟨rfl, rfl⟩
      generalize hW : w.alloc (stB 3 j b i v) = W at *
      clear hW
      go_wp2_with fail
      go_region
      clear z0 z1 c0 c1 c2 cf cy s0 s1 s2 s3 s4 sf hfz lg ln ls HW HH
      generalize (W.alloc (.cells #[.slice (some ⟨z.pb, 0, none⟩) z.ps.length z.ps.length, .slice (some ⟨z.sb, 0, none⟩) z.ss.length z.ss.length] 120)).drew = V at HX ⊢
      generalize W.heap.size = nbk at HX ⊢
      generalize w.heap.size = sbk at HX ⊢
      have hmz : z ∈ nd := List.mem_of_getElem? HK.out.2.2.2.1
      obtain ⟨c0, c1, c2, cf⟩ := HX.out.isg.four
      rw [HN.out.2.2] at c1
      have lg := HX.out.isg.blk.lt
      have ls := HX.out.st.lt
      have ln := HX.out.nb.lt
      have s1 := HX.out.st.cell 1
      have s2 := HX.out.st.cell 2
      have s3 := HX.out.st.cell 3
      have s4 := HX.out.st.cell 4
      obtain ⟨mm, hmm⟩ : ∃ mm, z.ps.length = mm := ⟨_, rfl⟩
      have m64 : mm ≤ 64 := by have := zs; omega
      have d0 : V.cell? ⟨nbk, 0, none⟩ = some (.slice (some ⟨z.pb, 0, none⟩) mm mm) := by rw [HX.out.nb.cell 0, ← hmm]; rfl
      clear c0 c2 zs
      by_cases hfi : 0 ≤ b ∧ b < mm
      · obtain ⟨F, rfl⟩ : ∃ F : Nat, b = F := ⟨b.toNat, by omega⟩
        have fl : F < mm := by omega
        obtain ⟨u, hu⟩ : ∃ u, z.ps[F]? = some u := ⟨_, List.getElem?_eq_getElem (by omega)⟩
        have pc : V.cell? ⟨z.pb, F, none⟩ = some (.int .i64 u) := by rw [(HX.out.isg.ptr z hmz).cell]; simp [ints, hu]
        have pf : ∀ k, V.frozen? ⟨z.pb, k, none⟩ = false := (HX.out.isg.ptr z hmz).frozen
        have lp := (HX.out.isg.ptr z hmz).lt
        obtain ⟨q2, off2, eq, lq, hcx, hfz⟩ := HX.out.isg.hrow.at_ (by have := HN.out.2.2; omega)
        cases eq
        have cx := hcx i x HV.out.1
        clear hcx
        have xin : 0 ≤ x ∧ x ≤ (nd.length : Int) := ⟨HV.out.2.2.1, by have := HV.out.2.2.2.1; rw [HK.out.1, List.length_map] at this; exact this⟩
        have ec : G.change 3 j F i v = (0, G.setNode ((p + 1 : Nat) : Int) (z.ps.set F x, z.ss)) := by
          unfold Gr.change
          rw [if_neg (by decide), if_neg (by decide), if_pos rfl, if_pos HK.out.2.2.2.2.2, if_pos HV.out.2.2.2.2, HK.out.2.2.2.2.1, HK.out.2.1, if_pos ⟨by omega, by simp only [hmm]; omega⟩, Int.toNat_natCast, HV.out.2.1]
        have HE := Lib.hid (fun (w' : World) (f : Below V.heap.size V w') => (show ChR w g _ G 3 j F i v (.returned (.int .i64 0)) (w'.setCell ⟨z.pb, F, none⟩ (.int .i64 x)) from by
          obtain ⟨h1, mv⟩ := (HX.out.isg.keep f).refer HK.out.2.2.2.1 F x xin.1 xin.2
          have hl2 : (nd.set p ⟨z.ps.set F x, z.ss, z.pb, z.sb⟩).length = nd.length := List.length_set
          unfold ChR
          rw [ec]
          exact ⟨rfl, _, ⟨_, _, hc, _, h1, by unfold Gr.setNode; rw [HK.out.2.2.1]; exact two_set HK.out.1 p ⟨z.ps.set F x, z.ss, z.pb, z.sb⟩, rfl⟩, Mv.pre (below_trans HX.out.bel f) mv⟩))
        clear xin ec
        clear HX HI HN HK hu hmm hmz HV
        go_wp2_with fail
        go_region
        go_wp2
        go_ret
        exact HE.out _ (below_drew _)
      · have ec : G.change 3 j b i v = (5, G) := by
          unfold Gr.change
          rw [if_neg (by decide), if_neg (by decide), if_pos rfl, if_pos HK.out.2.2.2.2.2, if_pos HV.out.2.2.2.2, HK.out.2.2.2.2.1, HK.out.2.1, if_neg (by simp only [hmm]; exact hfi)]
        have HE := Lib.hid (chR_err HI.out HX.out.bel ec)
        clear HX HI HN HK hmm hmz ec HV
        by_cases hz0 : b < 0
        · go_wp2
          go_ret
          exact HE.out
        · have hz1 : (mm : Int) ≤ b := by omega
          go_wp2
          go_ret
          exact HE.out
  · have HE := Lib.hid (chR_err (k := 3) (a := a) (b := b) (c := c) (v := v) (x := G.wrong a) r al (by simp [Gr.change, hw]))
    generalize G.wrong a = eb at HW HE hw
    clear r al HH
    go_enter Tryz.func71, Tryz.ntmps71
    go_wp2_with fail
    refine HW.out.mono ?_
    rintro e w1 ⟨rfl, rfl⟩
    go_wp2
    go_ret
    exact HE.out

set_option maxRecDepth 100000 in
set_option maxHeartbeats 8000000 in
theorem rgWrite (w : World) (g : Nat) (S : Nat → Prop) (G : Gr) (a b c v : Int) (r : Rg w g S G) : Calls Tryz.prog 71 #[.pointer (some ⟨g, 0, none⟩), sgV 5 a b c v] w fun e w' => ChR w g S G 5 a b c v e w' := by
  have al : Below w.heap.size w (w.alloc (stB 5 a b c v)) := (Below.refl _ _).alloc (Nat.le_refl _) _
  have HW := Lib.hid (rgWrong_any _ g S G a (r.keep al))
  by_cases hw : G.wrong a = 0
  · rw [hw] at HW
    obtain ⟨hb, hn⟩ := wrong_zero hw
    obtain ⟨j, y, rfl, jl, hy, yv, y0, y1⟩ := r.at_ hb
    obtain ⟨vN, hA, hc, nd, hi, eN, rfl⟩ := r
    rw [yv] at hn
    obtain ⟨p, z, rfl, hz, ez, ep⟩ := node_at eN (x := y) (by omega) (by rw [eN, List.length_map] at y1; exact y1)
    have hk := hi.keep al
    obtain ⟨q, off, rfl, _, hcx, hfz⟩ := hk.hrow.at_ (by omega)
    obtain ⟨nb, nc, cur, rfl, hnb, n1, n2, hcn⟩ := hk.row
    have cy := hcx j _ hy
    have z0 : (w.alloc (stB 5 j b c v)).cell? ⟨nb, (p + 1) * 2, none⟩ = some (.slice (some ⟨z.pb, 0, none⟩) z.ps.length z.ps.length) := by rw [hnb.cell]; exact hcn p 0 z hz (by decide)
    have z1 : (w.alloc (stB 5 j b c v)).cell? ⟨nb, (p + 1) * 2 + 1, none⟩ = some (.slice (some ⟨z.sb, 0, none⟩) z.ss.length z.ss.length) := by rw [hnb.cell]; exact hcn p 1 z hz (by decide)
    have kb := Blk.new w #[.int .i64 5, .int .i64 j, .int .i64 b, .int .i64 c, .int .u64 v] 53
    have hf := hi.hfew
    have hp : p + 1 < nd.length + 1 := by have := (List.getElem?_eq_some_iff.1 hz).1; omega
    have few : nd.length + 1 ≤ 1048577 := by have := hi.few; omega
    have zs := hi.size z (List.mem_of_getElem? hz)
    obtain ⟨c0, c1, c2, cf⟩ := hk.four
    have lg := hk.blk.lt
    have ln := hnb.lt
    have ls := kb.lt
    have s0 := kb.cell 0
    have s1 := kb.cell 1
    have s2 := kb.cell 2
    have s3 := kb.cell 3
    have s4 := kb.cell 4
    have sf := kb.frozen
    have HX := Lib.hid (gx_make hi 5 j b c v z)
    have HI := Lib.hid (Rg.intro hi eN)
    unfold maxLen at n2
    obtain ⟨N, hN⟩ : ∃ N, nd.length + 1 = N := ⟨_, rfl⟩
    obtain ⟨P, hP⟩ : ∃ P, p + 1 = P := ⟨_, rfl⟩
    obtain ⟨n, hn2⟩ : ∃ n, G.hs.length = n := ⟨_, rfl⟩
    rw [hN] at c0 hp few n1
    rw [hP] at cy z0 z1 hp
    rw [hn2] at c1 jl hf
    have HN := Lib.hid (And.intro hN (And.intro hP hn2))
    have HK := Lib.hid (And.intro eN (And.intro ez (And.intro ep (And.intro hz (And.intro yv hw)))))
    clear hcx hcn kb hnb hk hi eN ez ep hz yv hw hb hn hy y0 y1 hN hP hn2 al
    go_enter Tryz.func71, Tryz.ntmps71
    go_wp2_with fail
    refine HW.out.mono ?_
    rintro e w1 ⟨rfl, rfl⟩
    generalize hW : w.alloc (stB 5 j b c v) = W at *
    clear hW
    go_wp2_with fail
    go_region
    clear z0 z1 c0 c1 c2 cf cy s0 s1 s2 s3 s4 sf hfz lg ln ls HW
    generalize (W.alloc (.cells #[.slice (some ⟨z.pb, 0, none⟩) z.ps.length z.ps.length, .slice (some ⟨z.sb, 0, none⟩) z.ss.length z.ss.length] 120)).drew = V at HX ⊢
    generalize W.heap.size = nbk at HX ⊢
    generalize w.heap.size = sbk at HX ⊢
    have hmz : z ∈ nd := List.mem_of_getElem? HK.out.2.2.2.1
    obtain ⟨c0, c1, c2, cf⟩ := HX.out.isg.four
    rw [HN.out.2.2] at c1
    have lg := HX.out.isg.blk.lt
    have ls := HX.out.st.lt
    have ln := HX.out.nb.lt
    have s1 := HX.out.st.cell 1
    have s2 := HX.out.st.cell 2
    have s3 := HX.out.st.cell 3
    have s4 := HX.out.st.cell 4
    obtain ⟨mm, hmm⟩ : ∃ mm, z.ss.length = mm := ⟨_, rfl⟩
    have m64 : mm ≤ 64 := by have := zs; omega
    have d1 : V.cell? ⟨nbk, 1, none⟩ = some (.slice (some ⟨z.sb, 0, none⟩) mm mm) := by rw [HX.out.nb.cell 1, ← hmm]; rfl
    clear c0 c2 zs
    by_cases hfi : 0 ≤ b ∧ b < mm
    · obtain ⟨F, rfl⟩ : ∃ F : Nat, b = F := ⟨b.toNat, by omega⟩
      have fl : F < mm := by omega
      obtain ⟨u, hu⟩ : ∃ u, z.ss[F]? = some u := ⟨_, List.getElem?_eq_getElem (by omega)⟩
      have pc : V.cell? ⟨z.sb, F, none⟩ = some (.int .u64 u) := by rw [(HX.out.isg.sca z hmz).cell]; simp [wordsU, hu]
      have pf : ∀ k, V.frozen? ⟨z.sb, k, none⟩ = false := (HX.out.isg.sca z hmz).frozen
      have lp := (HX.out.isg.sca z hmz).lt
      have ec : G.change 5 j F c v = (0, G.setNode ((p + 1 : Nat) : Int) (z.ps, z.ss.set F v)) := by
        unfold Gr.change
        rw [if_neg (by decide), if_neg (by decide), if_neg (by decide), if_pos rfl, if_pos HK.out.2.2.2.2.2, HK.out.2.2.2.2.1, HK.out.2.1, if_pos ⟨by omega, by simp only [hmm]; omega⟩, Int.toNat_natCast]
      have HE := Lib.hid (fun (w' : World) (f : Below V.heap.size V w') => (show ChR w g _ G 5 j F c v (.returned (.int .i64 0)) (w'.setCell ⟨z.sb, F, none⟩ (.int .u64 v)) from by
        obtain ⟨h1, mv⟩ := (HX.out.isg.keep f).write HK.out.2.2.2.1 F v
        unfold ChR
        rw [ec]
        exact ⟨rfl, _, ⟨_, _, hc, _, h1, by unfold Gr.setNode; rw [HK.out.2.2.1]; exact two_set HK.out.1 p ⟨z.ps, z.ss.set F v, z.pb, z.sb⟩, rfl⟩, Mv.pre (below_trans HX.out.bel f) mv⟩))
      clear ec
      clear HX HI HN HK hu hmm hmz
      go_wp2
      go_ret
      exact HE.out _ (Below.refl _ _)
    · have ec : G.change 5 j b c v = (5, G) := by
        unfold Gr.change
        rw [if_neg (by decide), if_neg (by decide), if_neg (by decide), if_pos rfl, if_pos HK.out.2.2.2.2.2, HK.out.2.2.2.2.1, HK.out.2.1, if_neg (by simp only [hmm]; exact hfi)]
      have HE := Lib.hid (chR_err HI.out HX.out.bel ec)
      clear HX HI HN HK hmm hmz ec
      by_cases hz0 : b < 0
      · go_wp2
        go_ret
        exact HE.out
      · have hz1 : (mm : Int) ≤ b := by omega
        go_wp2
        go_ret
        exact HE.out
  · have HE := Lib.hid (chR_err (k := 5) (a := a) (b := b) (c := c) (v := v) (x := G.wrong a) r al (by simp [Gr.change, hw]))
    generalize G.wrong a = eb at HW HE hw
    clear r al
    go_enter Tryz.func71, Tryz.ntmps71
    go_wp2_with fail
    refine HW.out.mono ?_
    rintro e w1 ⟨rfl, rfl⟩
    go_wp2
    go_ret
    exact HE.out

end Go.Proofs.YthmhehehomieiaaGreat

/- Contracts of the document's graph: Make. -/
namespace Go.Proofs.YthmhehehomieiaaGreat
open Go.RowKit

theorem rgMadeI (n : Nat) : madeCells (Value.int .i64 0).cells n = (ints (List.replicate n 0)).toArray := by
  apply Array.ext
  · simp [madeCells, ints]
  · intro i h1 h2
    simp [madeCells, Value.cells, ints, Nat.mod_one]
theorem rgMadeU (n : Nat) : madeCells (Value.int .u64 0).cells n = (wordsU (List.replicate n 0)).toArray := by
  apply Array.ext
  · simp [madeCells, wordsU]
  · intro i h1 h2
    simp [madeCells, Value.cells, wordsU, Nat.mod_one]

theorem info_u64r : (Tryz.prog.info? 51).map (fun i => (i.zero, i.size, i.bytes)) = some (some (.int .u64 0), 1, 8) := by kernel_rfl

theorem rgMakeI (n : Nat) (h1 : n ≤ 64) (w : World) :
    (Instr.makeSlice 39 (.int .i64 n) (.int .i64 n)).run Tryz.prog w = .ok (.slice (some ⟨w.heap.size, 0, none⟩) n n) (w.alloc (.cells (ints (List.replicate n 0)).toArray 3)) := by
  obtain ⟨i, hi, hz, hs, hb⟩ := info_parts info_int
  have h := run_make (P := Tryz.prog) w 39 3 i _ Tryz.underlying39 hi hz .i64 .i64 (n : Int) (n : Int) (by omega) (Int.le_refl _) (by rw [hb]; omega) (by omega)
  rw [hs, Nat.mul_one, rgMadeI, Int.toNat_natCast] at h
  exact h
theorem rgMakeU (n : Nat) (h1 : n ≤ 64) (w : World) :
    (Instr.makeSlice 59 (.int .i64 n) (.int .i64 n)).run Tryz.prog w = .ok (.slice (some ⟨w.heap.size, 0, none⟩) n n) (w.alloc (.cells (wordsU (List.replicate n 0)).toArray 51)) := by
  obtain ⟨i, hi, hz, hs, hb⟩ := info_parts info_u64r
  have h := run_make (P := Tryz.prog) w 59 51 i _ Tryz.underlying59 hi hz .i64 .i64 (n : Int) (n : Int) (by omega) (Int.le_refl _) (by rw [hb]; omega) (by omega)
  rw [hs, Nat.mul_one, rgMadeU, Int.toNat_natCast] at h
  exact h

theorem grown_own {v : Value} {w w' : World} (h : w.grownBy w' v.ownBlock) : Frm (fun k => v.ownBlock = some k) w w' :=
  ⟨h.os, h.tape, h.output, h.size, fun k hk hn => h.block k hk (fun e => hn e.symm)⟩

/-- One more node. -/
theorem IsG.add {w w1 w2 : World} {g : Nat} {vN : Value} {hA : Option Addr} {hc : Nat} {nd : List Nd} {hs : List Int} {lg : Int} {g' cap H : Nat} (h : IsG w g vN hA hc nd hs lg) (x : Nd) (f : Below w.heap.size w w2)
    (bp : Blk w2 x.pb (ints x.ps).toArray 3) (bs : Blk w2 x.sb (wordsU x.ss).toArray 51) (np : w.heap.size ≤ x.pb) (nsb : w.heap.size ≤ x.sb) (hz : ∀ q ∈ x.ps, q = 0) (few : nd.length < 1048576) (sz : x.ps.length ≤ 64 ∧ x.ss.length ≤ 64)
    (own : w1.ownsRow 0 120 2 (.slice (some ⟨g', 0, none⟩) (nd.length + 1 + 1) cap) (nd.length + 1 + 1) (ndV nd ++ x.vs)) (gr : w2.grownBy w1 vN.ownBlock) (hat : vN.ownBlock = some g' ∨ g' = H) (hH : w2.heap.size = H) :
    IsG (w1.setCell ⟨g, 0, none⟩ (.slice (some ⟨g', 0, none⟩) (nd.length + 1 + 1) cap)) g (.slice (some ⟨g', 0, none⟩) (nd.length + 1 + 1) cap) hA hc (nd ++ [x]) hs lg ∧
      Mv (gOwn g vN hA nd) (gOwn g (.slice (some ⟨g', 0, none⟩) (nd.length + 1 + 1) cap) hA (nd ++ [x])) w (w1.setCell ⟨g, 0, none⟩ (.slice (some ⟨g', 0, none⟩) (nd.length + 1 + 1) cap)) := by
  have hk := h.keep f
  have fr := grown_own gr
  obtain ⟨nb, nc, cur, en, hnb, _⟩ := hk.row
  have no : ∀ {k : Nat} {cs : Array Value} {ty : TypeId}, Blk w2 k cs ty → ty ≠ 120 → ¬ vN.ownBlock = some k := by
    intro k cs ty hb n1 e
    rw [en] at e
    cases e
    exact Blk.ne_ hb hnb n1 rfl
  have kb := hk.blk.frm fr (no hk.blk (by decide))
  have fs : Frm (fun k => k = g) w1 (w1.setCell ⟨g, 0, none⟩ (.slice (some ⟨g', 0, none⟩) (nd.length + 1 + 1) cap)) := Frm.setCell (S := fun k => k = g) (Frm.refl _ _) (p := ⟨g, 0, none⟩) (fun _ => rfl) _
  have two : ∀ {k : Nat} {cs : Array Value} {ty : TypeId}, Blk w2 k cs ty → ty ≠ 120 → ty ≠ 117 → Blk (w1.setCell ⟨g, 0, none⟩ (.slice (some ⟨g', 0, none⟩) (nd.length + 1 + 1) cap)) k cs ty := by
    intro k cs ty hb n1 n2
    have k1 := hb.frm fr (no hb n1)
    exact k1.frm fs fun e => Blk.ne_ k1 kb n2 e
  have hq : Qu (w1.setCell ⟨g, 0, none⟩ (.slice (some ⟨g', 0, none⟩) (nd.length + 1 + 1) cap)) hA hs.length hc hs := by
    refine { hk.hrow with lies := hk.hrow.lies.imp id ?_ }
    rintro ⟨q, off, cs, rfl, hb, r⟩
    exact ⟨q, off, cs, rfl, two hb (by decide) (by decide), r⟩
  have hl : (nd ++ [x]).length = nd.length + 1 := by simp
  have hg' : g' ≠ g := by
    rintro rfl
    rcases own.2 with ⟨e, _⟩ | ⟨q, _, cs, e, _, hb, _⟩
    · cases e
    · cases e
      exact Blk.ne_ kb (show Blk w1 g' cs 120 from hb) (by decide) rfl
  refine ⟨{ blk := kb.set_ 0 _, hrow := hq, nrow := ?_, ptr := ?_, sca := ?_, hap := ?_, nap := ?_, hin := ?_, pin := ?_, few := by rw [hl]; omega, hfew := h.hfew, lg0 := h.lg0, lg1 := h.lg1, size := ?_ }, ?_, ?_⟩
  · rw [hl, ndV_snoc]
    exact ownsRow_frm own fs (fun j e => by cases e; exact hg')
  · intro z hz
    rcases List.mem_append.1 hz with hz | hz
    · exact two (hk.ptr z hz) (by decide) (by decide)
    · rw [List.mem_singleton.1 hz]; exact two bp (by decide) (by decide)
  · intro z hz
    rcases List.mem_append.1 hz with hz | hz
    · exact two (hk.sca z hz) (by decide) (by decide)
    · rw [List.mem_singleton.1 hz]; exact two bs (by decide) (by decide)
  · intro z hz
    rcases List.mem_append.1 hz with hz | hz
    · exact h.hap z hz
    · rw [List.mem_singleton.1 hz]
      intro e
      have := h.hrow.lt e
      omega
  · rw [List.pairwise_append]
    refine ⟨h.nap, List.pairwise_singleton _ _, fun a ha b hb => ?_⟩
    rw [List.mem_singleton.1 hb]
    have p1 := (h.ptr a ha).lt
    have p2 := (h.sca a ha).lt
    omega
  · intro y hy; rw [hl]; have := h.hin y hy; omega
  · intro z hz' q hq'
    rw [hl]
    rcases List.mem_append.1 hz' with hz' | hz'
    · have := h.pin z hz' q hq'; omega
    · rw [List.mem_singleton.1 hz'] at hq'
      rw [hz q hq']; omega
  · intro z hz'
    rcases List.mem_append.1 hz' with hz' | hz'
    · exact h.size z hz'
    · rw [List.mem_singleton.1 hz']; exact sz
  · refine Frm.setCell (p := ⟨g, 0, none⟩) ((Frm.of_below f : Frm (gOwn g vN hA nd) w w2).trans fr (fun i _ e => .inr (.inl e))) (fun _ => .inl rfl) _
  · rintro k (e | e | e | ⟨z, hz', e⟩)
    · exact .inl (.inl e)
    · cases e
      rcases hat with e | e
      · exact .inl (.inr (.inl e))
      · have := f.size; exact .inr (show w.heap.size ≤ g' from by omega)
    · exact .inl (.inr (.inr (.inl e)))
    · rcases List.mem_append.1 hz' with hz' | hz'
      · exact .inl (.inr (.inr (.inr ⟨z, hz', e⟩)))
      · rw [List.mem_singleton.1 hz'] at e
        exact .inr (by omega)

section
variable (w : World) (g : Nat) (S : Nat → Prop) (G : Gr) (a b c v : Int)

set_option maxRecDepth 100000 in
set_option maxHeartbeats 8000000 in
theorem rgMake_no (r : Rg w g S G) (hno : G.has a = false ∨ (b < 0 ∨ c < 0 ∨ G.lg < b ∨ G.lg - b < c)) (hb0 : -9223372036854775808 ≤ b) (hb1 : b ≤ 9223372036854775807) :
    Calls Tryz.prog 71 #[.pointer (some ⟨g, 0, none⟩), sgV 1 a b c v] w fun e w' => ChR w g S G 1 a b c v e w' := by
  have al : Below w.heap.size w (w.alloc (stB 1 a b c v)) := (Below.refl _ _).alloc (Nat.le_refl _) _
  have HH := Lib.hid (rgHas_any _ g S G a (r.keep al))
  cases hh : G.has a
  · rw [hh] at HH
    have HE := Lib.hid (chR_err (k := 1) (a := a) (b := b) (c := c) (v := v) (x := 3) r al (by simp [Gr.change, hh]))
    clear r hno hh al
    go_enter Tryz.func71, Tryz.ntmps71
    go_wp2_with fail
    refine HH.out.mono ?_
    rintro e w1 ⟨rfl, rfl⟩
    go_wp2
    go_ret
    exact HE.out
  · rw [hh] at HH hno
    have bad := hno.resolve_left (by decide)
    have HE := Lib.hid (fun w' (f : Below (w.alloc (stB 1 a b c v)).heap.size (w.alloc (stB 1 a b c v)) w') => chR_err (k := 1) (a := a) (b := b) (c := c) (v := v) (x := 6) r (below_trans al f) (by unfold Gr.change; rw [if_pos rfl, if_pos hh, if_pos bad]))
    obtain ⟨vN, hA, hc, nd, hi, eN, _⟩ := r
    obtain ⟨c0, c1, c2, cf⟩ := (hi.keep al).four
    have l0 := hi.lg0
    have l1 := hi.lg1
    have kb := Blk.new w #[.int .i64 1, .int .i64 a, .int .i64 b, .int .i64 c, .int .u64 v] 53
    have s2 := kb.cell 2
    have s3 := kb.cell 3
    clear hi eN kb al hh hno c0 c1
    generalize G.lg = lg at *
    rcases (show b < 0 ∨ (¬ b < 0 ∧ c < 0) ∨ (¬ b < 0 ∧ ¬ c < 0 ∧ lg < b) ∨ (¬ b < 0 ∧ ¬ c < 0 ∧ ¬ lg < b ∧ lg - b < c) from by omega) with h1 | ⟨h1, h2⟩ | ⟨h1, h2, h3⟩ | ⟨h1, h2, h3, h4⟩
    · have d1 : decide (b < 0) = true := decide_eq_true h1
      go_enter Tryz.func71, Tryz.ntmps71
      go_wp2_with fail
      refine HH.out.mono ?_
      rintro e w1 ⟨rfl, rfl⟩
      go_wp2_with fail
      go_big_quiet (fail)
      go_wp2
      go_ret
      exact HE.out _ (below_drewN _ _)
    · have d1 : decide (b < 0) = false := decide_eq_false h1
      have d2 : decide (c < 0) = true := decide_eq_true h2
      go_enter Tryz.func71, Tryz.ntmps71
      go_wp2_with fail
      refine HH.out.mono ?_
      rintro e w1 ⟨rfl, rfl⟩
      go_wp2_with fail
      go_big_quiet (fail)
      go_wp2
      go_ret
      exact HE.out _ (below_drewN _ _)
    · have d1 : decide (b < 0) = false := decide_eq_false h1
      have d2 : decide (c < 0) = false := decide_eq_false h2
      have d3 : decide (lg < b) = true := decide_eq_true h3
      have d3' : decide (b > lg) = true := decide_eq_true h3
      go_enter Tryz.func71, Tryz.ntmps71
      go_wp2_with fail
      refine HH.out.mono ?_
      rintro e w1 ⟨rfl, rfl⟩
      go_wp2_with fail
      go_big_quiet (fail)
      go_wp2
      go_ret
      exact HE.out _ (below_drewN _ _)
    · have d1 : decide (b < 0) = false := decide_eq_false h1
      have d2 : decide (c < 0) = false := decide_eq_false h2
      have d3 : decide (lg < b) = false := decide_eq_false h3
      have d3' : decide (b > lg) = false := decide_eq_false h3
      have d4 : decide (lg - b < c) = true := decide_eq_true h4
      have d4' : decide (c > lg - b) = true := decide_eq_true h4
      have wl : IntKind.i64.wrap (lg - b) = lg - b := IntWalk.i64_in _ (by omega)
      go_enter Tryz.func71, Tryz.ntmps71
      go_wp2_with fail
      refine HH.out.mono ?_
      rintro e w1 ⟨rfl, rfl⟩
      go_wp2_with fail
      go_big_quiet (fail)
      go_wp2
      go_ret
      exact HE.out _ (below_drewN _ _)
end
end Go.Proofs.YthmhehehomieiaaGreat

/- The document's graph: how a node that is made lies in memory, in either order of its two rows. -/
namespace Go.Proofs.YthmhehehomieiaaGreat
open Go.RowKit

abbrev bxI (n : Nat) : Obj := .cells (ints (List.replicate n 0)).toArray 3
abbrev bxU (n : Nat) : Obj := .cells (wordsU (List.replicate n 0)).toArray 51
abbrev bxN (p s m n : Nat) : Obj := .cells #[.slice (some ⟨p, 0, none⟩) m m, .slice (some ⟨s, 0, none⟩) n n] 120

/-- What is there when both rows and the node have been laid, in either order of the rows. -/
structure Mk (w U : World) (g : Nat) (vN : Value) (hA : Option Addr) (hc : Nat) (nd : List Nd) (hs : List Int) (lg : Int) (p s q m n : Nat) : Prop where
  bel : Below w.heap.size w U
  isg : IsG w g vN hA hc nd hs lg
  bp : Blk U p (ints (List.replicate m 0)).toArray 3
  bs : Blk U s (wordsU (List.replicate n 0)).toArray 51
  bn : Blk U q #[.slice (some ⟨p, 0, none⟩) m m, .slice (some ⟨s, 0, none⟩) n n] 120
  np : w.heap.size ≤ p
  ns : w.heap.size ≤ s

section
variable {w : World} {g : Nat} {vN : Value} {hA : Option Addr} {hc : Nat} {nd : List Nd} {hs : List Int} {lg : Int}

theorem mk_ps (h : IsG w g vN hA hc nd hs lg) (m n : Nat) : Mk w (((w.alloc (bxI m)).alloc (bxU n)).alloc (bxN w.heap.size (w.heap.size + 1) m n)).drew g vN hA hc nd hs lg w.heap.size (w.heap.size + 1) (w.heap.size + 2) m n := by
  have s1 : (w.alloc (bxI m)).heap.size = w.heap.size + 1 := by simp
  have s2 : ((w.alloc (bxI m)).alloc (bxU n)).heap.size = w.heap.size + 2 := by simp
  have b1 : Below w.heap.size w (w.alloc (bxI m)) := (Below.refl _ _).alloc (Nat.le_refl _) _
  have b2 := b1.alloc (by simp) (bxU n)
  have b3 := b2.alloc (by rw [s2]; omega) (bxN w.heap.size (w.heap.size + 1) m n)
  have k2 := Blk.new (w.alloc (bxI m)) (wordsU (List.replicate n 0)).toArray 51
  have k3 := Blk.new ((w.alloc (bxI m)).alloc (bxU n)) #[.slice (some ⟨w.heap.size, 0, none⟩) m m, .slice (some ⟨w.heap.size + 1, 0, none⟩) n n] 120
  rw [s1] at k2
  rw [s2] at k3
  exact ⟨below_trans b3 (below_drew _), h, (((Blk.new w _ _).alloc _).alloc _).drew, (k2.alloc _).drew, k3.drew, Nat.le_refl _, by omega⟩

theorem mk_sp (h : IsG w g vN hA hc nd hs lg) (m n : Nat) : Mk w (((w.alloc (bxU n)).alloc (bxI m)).alloc (bxN (w.heap.size + 1) w.heap.size m n)).drew g vN hA hc nd hs lg (w.heap.size + 1) w.heap.size (w.heap.size + 2) m n := by
  have s1 : (w.alloc (bxU n)).heap.size = w.heap.size + 1 := by simp
  have s2 : ((w.alloc (bxU n)).alloc (bxI m)).heap.size = w.heap.size + 2 := by simp
  have b1 : Below w.heap.size w (w.alloc (bxU n)) := (Below.refl _ _).alloc (Nat.le_refl _) _
  have b2 := b1.alloc (by simp) (bxI m)
  have b3 := b2.alloc (by rw [s2]; omega) (bxN (w.heap.size + 1) w.heap.size m n)
  have k2 := Blk.new (w.alloc (bxU n)) (ints (List.replicate m 0)).toArray 3
  have k3 := Blk.new ((w.alloc (bxU n)).alloc (bxI m)) #[.slice (some ⟨w.heap.size + 1, 0, none⟩) m m, .slice (some ⟨w.heap.size, 0, none⟩) n n] 120
  rw [s1] at k2
  rw [s2] at k3
  exact ⟨below_trans b3 (below_drew _), h, (k2.alloc _).drew, (((Blk.new w _ _).alloc _).alloc _).drew, k3.drew, by omega, Nat.le_refl _⟩

/-- The node's two cells, as they are appended. -/
theorem Mk.news {U : World} {p s q m n : Nat} (h : Mk w U g vN hA hc nd hs lg p s q m n) : ∀ j u, [Value.slice (some ⟨p, 0, none⟩) m m, .slice (some ⟨s, 0, none⟩) n n][j]? = some u → U.cell? ((⟨q, 0, none⟩ : Addr).add j) = some u := by
  intro j u hj
  rw [Addr.add_lit, Nat.zero_add, h.bn.cell]
  simpa using hj

theorem Mk.row {U : World} {p s q m n : Nat} (h : Mk w U g vN hA hc nd hs lg p s q m n) : U.ownsRow 0 120 2 vN (nd.length + 1) (ndV nd) := (h.isg.keep h.bel).nrow

/-- Behind the append the graph itself reads as before. -/
theorem Mk.cells {U w1 : World} {p s q m n : Nat} (h : Mk w U g vN hA hc nd hs lg p s q m n) (gr : U.grownBy w1 vN.ownBlock) : w1.cell? ⟨g, 0, none⟩ = some vN ∧ w1.frozen? ⟨g, 0, none⟩ = false := by
  have hk := h.isg.keep h.bel
  obtain ⟨nb, nc, cur, en, hnb, _⟩ := hk.row
  have kb := hk.blk.frm (grown_own gr) (fun e => by rw [en] at e; cases e; exact Blk.ne_ hk.blk hnb (by decide) rfl)
  exact ⟨kb.cell 0, kb.frozen 0⟩

/-- A box of another kind reads as before. -/
theorem Mk.box {U w1 : World} {p s q m n k : Nat} {cs : Array Value} {ty : TypeId} (h : Mk w U g vN hA hc nd hs lg p s q m n) (gr : U.grownBy w1 vN.ownBlock) (hb : Blk w k cs ty) (n1 : ty ≠ 120) : Blk w1 k cs ty := by
  have hk := h.isg.keep h.bel
  obtain ⟨nb, nc, cur, en, hnb, _⟩ := hk.row
  have kb := hb.keep h.bel
  exact kb.frm (grown_own gr) (fun e => by rw [en] at e; cases e; exact Blk.ne_ kb hnb n1 rfl)

theorem Mk.done {U w1 : World} {p s q m n g' cap H : Nat} (h : Mk w U g vN hA hc nd hs lg p s q m n) (hm : m ≤ 64) (hn : n ≤ 64) (few : nd.length < 1048576)
    (own : w1.ownsRow 0 120 2 (.slice (some ⟨g', 0, none⟩) (nd.length + 1 + 1) cap) (nd.length + 1 + 1) (ndV nd ++ [Value.slice (some ⟨p, 0, none⟩) m m, .slice (some ⟨s, 0, none⟩) n n])) (gr : U.grownBy w1 vN.ownBlock) (hat : vN.ownBlock = some g' ∨ g' = H) (hH : U.heap.size = H) :
    ∃ x : Nd, x.two = (List.replicate m 0, List.replicate n 0) ∧ IsG (w1.setCell ⟨g, 0, none⟩ (.slice (some ⟨g', 0, none⟩) (nd.length + 1 + 1) cap)) g (.slice (some ⟨g', 0, none⟩) (nd.length + 1 + 1) cap) hA hc (nd ++ [x]) hs lg ∧
      Mv (gOwn g vN hA nd) (gOwn g (.slice (some ⟨g', 0, none⟩) (nd.length + 1 + 1) cap) hA (nd ++ [x])) w (w1.setCell ⟨g, 0, none⟩ (.slice (some ⟨g', 0, none⟩) (nd.length + 1 + 1) cap)) := by
  refine ⟨⟨List.replicate m 0, List.replicate n 0, p, s⟩, rfl, ?_⟩
  refine h.isg.add ⟨List.replicate m 0, List.replicate n 0, p, s⟩ h.bel h.bp h.bs h.np h.ns (fun q hq => List.eq_of_mem_replicate hq) few (by simp; omega) ?_ gr hat hH
  simp only [Nd.vs, List.length_replicate]
  exact own
end

theorem IsG.far_ {w : World} {g : Nat} {vN : Value} {hA : Option Addr} {hc : Nat} {nd : List Nd} {hs : List Int} {lg : Int} (h : IsG w g vN hA hc nd hs lg) {k : Nat} {cs : Array Value} {ty : TypeId} (hb : Blk w k cs ty) (n1 : ty ≠ 117) (n2 : ty ≠ 120) (n3 : ty ≠ 3) (n4 : ty ≠ 51) : ¬ gOwn g vN hA nd k := by
  rintro (rfl | e | e | ⟨x, hx, rfl | rfl⟩)
  · exact Blk.ne_ hb h.blk n1 rfl
  · obtain ⟨nb, nc, cur, rfl, hnb, _⟩ := h.row
    cases e
    exact Blk.ne_ hb hnb n2 rfl
  · exact h.hNe hb n3 e
  · exact Blk.ne_ hb (h.ptr x hx) n3 rfl
  · exact Blk.ne_ hb (h.sca x hx) n4 rfl

/-- A node was added. -/
def AddR (U : World) (g : Nat) (vN : Value) (hA : Option Addr) (hc : Nat) (nd : List Nd) (hs : List Int) (lg : Int) (m n : Nat) (wc : World) : Prop :=
  ∃ (g' cap : Nat) (x : Nd), x.two = (List.replicate m 0, List.replicate n 0) ∧ IsG wc g (.slice (some ⟨g', 0, none⟩) (nd.length + 1 + 1) cap) hA hc (nd ++ [x]) hs lg ∧
      Mv (gOwn g vN hA nd) (gOwn g (.slice (some ⟨g', 0, none⟩) (nd.length + 1 + 1) cap) hA (nd ++ [x])) U wc
end Go.Proofs.YthmhehehomieiaaGreat

/- Of no program: region_made_tail (MdQ) for operations that hang on what others made: each is shown to make something of its kind wherever what it waits for was made as the walk knows it, and it itself was not made yet. -/
namespace Go.Proofs.YthmhehehomieiaaGreat

theorem Made.upd_ne {m : Made} {i d : Nat} (v : Value) (h : d ≠ i) : (m.upd i v) d = m d := by
  unfold Made.upd
  rw [if_neg h]

section
variable (P : Program) (G : Made → World → Prop) (md : Region.Mode)
/-- Wherever what the operation waits for was made as m says, and it itself was made as m says (not yet), it makes something of its kind. -/
def makesR (V : Value → Prop) (i : Nat) (o : Oper) (a : Act) (m : Made) : Prop :=
  ∀ m' w, G m' w → (∀ d, (d = i ∨ ∃ e ∈ o.after, Region.binds md e = true ∧ e.on = d) → m' d = m d) → madeUpon P V (fun u w' => G (m'.upd i u) w') ((execOp a.eval o).run P w)

/-- The walk in the order of the text. -/
def wpMadeR (V : Nat → Value → Prop) (T : Act → Made → Prop) : List Oper → Nat → Act → Made → Prop
  | [], _, a, m => T a m
  | o :: rest, k, a, m => makesR P G md (V k) k o a m ∧ ∀ v, V k v → wpMadeR V T rest (k + 1) (a.put o.dst v) (m.upd k v)

def mOpR (ops : Array Oper) (V : Nat → Value → Prop) (i : Nat) (K : Act → Made → Prop) (a : Act) (m : Made) : Prop :=
  match ops[i]? with
  | none => False
  | some o => o.guard = none ∧ makesR P G md (V i) i o a m ∧ ∀ v, V i v → K (a.put o.dst v) (m.upd i v)
end

section
variable {P : Program} {G : Made → World → Prop} {md : Region.Mode} {ops : Array Oper} {V : Nat → Value → Prop}

theorem mOpR_mono {i : Nat} {K K' : Act → Made → Prop} {a : Act} {m : Made} (h : ∀ a m, K a m → K' a m) (hh : mOpR P G md ops V i K a m) : mOpR P G md ops V i K' a m := by
  unfold mOpR at *
  split
  · simp_all
  · rename_i o ho
    rw [ho] at hh
    exact ⟨hh.1, hh.2.1, fun v hv => h _ _ (hh.2.2 v hv)⟩

theorem wpOp_of_madeR {i : Nat} {K : Act → Made → Prop} {K' : Act → World → Prop} {Q : Exit → Act → World → Prop} {a : Act} {m : Made} {w : World} (hG : G m w) (h : ∀ a m w, G m w → K a m → K' a w) (hh : mOpR P G md ops V i K a m) : wpOp P ops Q i K' a w := by
  unfold mOpR at hh
  unfold wpOp
  split
  · rename_i ho; rw [ho] at hh; exact hh.elim
  · rename_i o ho
    rw [ho] at hh
    obtain ⟨hg, hm, hk⟩ := hh
    rw [if_pos (by simp [Region.wanted, hg])]
    refine .inl ?_
    have h3 := hm m w hG fun _ _ => rfl
    unfold Oper.wp
    generalize (execOp a.eval o).run P w = r at *
    cases r with
    | ok n w' =>
      cases n <;> simp only [madeUpon] at h3 <;> simp only [Oper.upon]
      case value u => exact h _ _ _ h3.2 (hk u h3.1)
      case skip => exact h _ _ _ h3.2 (hk _ h3.1)
      case enter f args =>
        refine h3.mono fun e w'' he => ?_
        obtain ⟨u, rfl, hv, hg'⟩ := he
        exact h _ _ _ hg' (hk u hv)
    | halt x w' => simp only [madeUpon] at h3

/-- f operations more come up, each one of the first n, and makesR something of its kind, whichever is picked; then L. -/
def HeadMR (P : Program) (G : Made → World → Prop) (md : Region.Mode) (ops : Array Oper) (V : Nat → Value → Prop) (n : Nat) (L : Array Bool → Act → Made → Prop) : Nat → Array Bool → Act → Made → Prop
  | 0, done, a, m => L done a m
  | f + 1, done, a, m => Region.ready md ops done ≠ [] ∧ ∀ i ∈ Region.ready md ops done, i < n ∧ mOpR P G md ops V i (HeadMR P G md ops V n L f (done.setIfInBounds i true)) a m

theorem HeadMR.any {n g : Nat} {L : Array Bool → Act → Made → Prop} {Q : Exit → Act → World → Prop} (hL : ∀ done a m w, G m w → L done a m → wpAny P md ops Q g done a w) (f : Nat) :
    ∀ done a m w, G m w → HeadMR P G md ops V n L f done a m → wpAny P md ops Q (f + g) done a w := by
  induction f with
  | zero => intro done a m w hw h; rw [Nat.zero_add]; exact hL done a m w hw h
  | succ f ih =>
    intro done a m w hw h
    rw [Nat.succ_add]
    exact ⟨fun e => absurd e h.1, fun i hi => wpOp_of_madeR hw (fun a' m' w' hw' h' => ih _ a' m' w' hw' h') (h.2 i hi).2⟩

theorem makesR_same {V : Value → Prop} {i : Nat} {o : Oper} {a a' : Act} {m m' : Made} (h : execOp a'.eval o = execOp a.eval o) (hm : ∀ d, (d = i ∨ ∃ e ∈ o.after, Region.binds md e = true ∧ e.on = d) → m' d = m d) (k : makesR P G md V i o a m) : makesR P G md V i o a' m' := by
  unfold makesR at *
  rw [h]
  exact fun m2 w hw ha => k m2 w hw fun d hd => (ha d hd).trans (hm d hd)

/-- An operation of the head that may come up now may be taken first. -/
theorem HeadMR.first {n i : Nat} {o : Oper} {L : Array Bool → Act → Made → Prop} (hV : ∀ k, ∃ v, V k v) (ho : ops[i]? = some o) (hg : o.guard = none) (sel : Region.noSelect ops = true)
    (sink : Region.sinkB md ops n = true) (chain : Region.chainB md ops n = true) (hn : n < ops.size) (hin : i < n) (last : ∀ done a m, L done a m → ∀ j ∈ Region.ready md ops done, n ≤ j) (f : Nat) :
    ∀ done a m, HeadInv md ops n done →
      (∀ j oj, ops[j]? = some oj → j ≠ i → done.getD j true = false → (∀ e ∈ oj.after, Region.binds md e = true → e.on ≠ i) → o.apart ops oj = true) →
      i ∈ Region.ready md ops done → makesR P G md (V i) i o a m → (∀ v, V i v → HeadMR P G md ops V n L f (done.setIfInBounds i true) (a.put o.dst v) (m.upd i v)) → HeadMR P G md ops V n L (f + 1) done a m := by
  induction f with
  | zero =>
    intro done a m inv _ hr hy H
    refine ⟨List.ne_nil_of_mem hr, fun j hj => ?_⟩
    have hjn : j < n := Nat.lt_of_not_le fun h => tail_waits sink chain hn inv _ i rfl hin (mem_ready.1 hr).1 j h hj
    by_cases e : j = i
    · subst e
      refine ⟨hjn, ?_⟩
      unfold mOpR
      rw [ho]
      exact ⟨hg, hy, H⟩
    · obtain ⟨v, hv⟩ := hV i
      have := last _ _ _ (H v hv) j (ready_mono hj e)
      omega
  | succ f ih =>
    intro done a m inv fr hr hy H
    refine ⟨List.ne_nil_of_mem hr, fun j hj => ?_⟩
    have hjn : j < n := Nat.lt_of_not_le fun h => tail_waits sink chain hn inv _ i rfl hin (mem_ready.1 hr).1 j h hj
    by_cases e : j = i
    · subst e
      refine ⟨hjn, ?_⟩
      unfold mOpR
      rw [ho]
      exact ⟨hg, hy, H⟩
    · obtain ⟨hju, oj, hoj, hall⟩ := mem_ready.1 hj
      have off : ∀ d ∈ oj.after, Region.binds md d = true → d.on ≠ i := fun d hd hb hon => by
        have h1 := hall d hd hb
        rw [hon, getD_both (mem_ready.1 hr).1] at h1
        cases h1
      have agj : ∀ d, (d = j ∨ ∃ x ∈ oj.after, Region.binds md x = true ∧ x.on = d) → d ≠ i := fun d hd => by
        rcases hd with rfl | ⟨x, hx, hb, rfl⟩
        · exact e
        · exact off x hx hb
      obtain ⟨hiu, oi, hoi, halli⟩ := mem_ready.1 hr
      have eoi : oi = o := by rw [ho] at hoi; exact (Option.some.inj hoi).symm
      have agi : ∀ d, (d = i ∨ ∃ x ∈ o.after, Region.binds md x = true ∧ x.on = d) → d ≠ j := fun d hd => by
        rcases hd with rfl | ⟨x, hx, hb, rfl⟩
        · exact Ne.symm e
        · intro hon
          have h1 := halli x (eoi ▸ hx) hb
          rw [hon, getD_both hju] at h1
          cases h1
      have S := Region.noSelect_spec sel
      have ap := fr j oj hoj e hju off
      obtain ⟨a1, a2, a3⟩ := Oper.apart_spec ap
      have H2 : ∀ v, V i v → mOpR P G md ops V j (HeadMR P G md ops V n L f ((done.setIfInBounds i true).setIfInBounds j true)) (a.put o.dst v) (m.upd i v) := fun v hv => ((H v hv).2 j (ready_mono hj e)).2
      obtain ⟨v0, hv0⟩ := hV i
      have H0 := H2 v0 hv0
      refine ⟨hjn, ?_⟩
      unfold mOpR at H0 H2 ⊢
      rw [hoj] at H0 H2 ⊢
      simp only at H0 H2 ⊢
      refine ⟨H0.1, makesR_same (execOp_put oj (fun cs b => S j oj cs b hoj) a o.dst v0 a1).symm (fun d hd => (Made.upd_ne v0 (agj d hd)).symm) H0.2.1, fun u hu => ?_⟩
      refine ih _ _ _ (inv.set hj hjn) (fun k ok hk hki hu' hno => fr k ok hk hki ?_ hno) (ready_mono hr (Ne.symm e)) (makesR_same (execOp_put o (fun cs b => S i o cs b ho) a oj.dst u a3) (fun d hd => Made.upd_ne u (agi d hd)) hy) fun v hv => ?_
      · by_cases ek : j = k
        · subst ek; exact hju
        · rwa [getD_set_ne true ek] at hu'
      · have := (H2 v hv).2.2 u hu
        rw [Act.put_comm a v u a2, Made.upd_comm m (Ne.symm e) v u] at this
        rw [Array.setIfInBounds_comm _ _ e]
        exact this

theorem HeadMR.lex {n g : Nat} {T : Act → Made → Prop} (hV : ∀ k, ∃ v, V k v) (sel : Region.noSelect ops = true) (sink : Region.sinkB md ops n = true) (chain : Region.chainB md ops n = true) (hn : n < ops.size) (l : List Oper) :
    ∀ k done a m, (∀ j, j < l.length → l[j]? = ops[k + j]?) → (∀ o ∈ l, o.guard = none) → k + l.length = n → HeadInv md ops n done → Region.lexHead md ops g l.length k done = true → wpMadeR P G md V T l k a m →
      HeadMR P G md ops V n (fun d a' m' => Region.seqB md ops g n d = true ∧ T a' m') l.length done a m := by
  induction l with
  | nil =>
    intro k done a m _ _ hk _ hB h
    obtain rfl : k = n := by simpa using hk
    exact ⟨by simpa [Region.lexHead] using hB, h⟩
  | cons o l ih =>
    intro k done a m hl hg hk inv hB h
    have h0 : ops[k]? = some o := by simpa using (hl 0 (by simp)).symm
    have hkl : k + (l.length + 1) = n := hk
    have hkn : k < n := by omega
    simp only [List.length_cons, Region.lexHead, Bool.and_eq_true] at hB
    have hr : k ∈ Region.ready md ops done := by simpa using hB.1.1
    refine HeadMR.first hV h0 (hg o (List.mem_cons_self ..)) sel sink chain hn hkn (fun d a' m' hL => seqB_ready hL.1) l.length done a m inv (Region.free_spec h0 hB.1.2) hr h.1 fun v hv =>
      ih (k + 1) _ _ _ (fun j hj => ?_) (fun x hx => hg x (List.mem_cons_of_mem _ hx)) (by omega) (inv.set hr hkn) hB.2 (h.2 v hv)
    have := hl (j + 1) (by simp; omega)
    simpa [Nat.add_assoc, Nat.add_comm 1 j] using this

theorem wpMadeR_step {T : Act → Made → Prop} {o : Oper} {rest : List Oper} {k : Nat} {a : Act} {m : Made} (h : makesR P G md (V k) k o a m)
    (h2 : ∀ K : Act → Made → Prop, (∀ a m, wpMadeR P G md V T rest (k + 1) a m → K a m) → ∀ v, V k v → K (a.put o.dst v) (m.upd k v)) : wpMadeR P G md V T (o :: rest) k a m :=
  ⟨h, fun v hv => h2 _ (fun _ _ h => h) v hv⟩
theorem wpMadeR_nil {T : Act → Made → Prop} {k : Nat} {a : Act} {m : Made} (h : T a m) : wpMadeR P G md V T [] k a m := h

/-- The region's head is walked in the order of the text, whatever is made; its tail as it stands. -/
theorem region_made_tailR {id : Nat} {Q : Exit → Act → World → Prop} {a : Act} {w : World} {l : List Oper} (G : Made → World → Prop) (V : Nat → Value → Prop) (n : Nat) (hm : P.follows .mixedOrders = true) (hB : Region.lexTailB .any l.toArray n = true)
    (hgd : ((l.take n).all fun o => o.guard.isNone) = true) (hV : ∀ k, ∃ v, V k v) (hG : G (fun _ => none) w.drew)
    (h : wpMadeR P G .any V (fun a' m => ∀ w', G m w' → wpList P l.toArray Q (l.drop n) a' w') (l.take n) 0 a (fun _ => none)) : (Code.region id l.toArray true).wp P Q a w := by
  simp only [Region.lexTailB, Bool.and_eq_true, decide_eq_true_eq] at hB
  obtain ⟨⟨⟨⟨sel, hn⟩, sink⟩, chain⟩, lex⟩ := hB
  have hn' : n < l.length := by simpa using hn
  have e1 : (l.take n).length = n := by simp; omega
  have e2 : (l.drop n).length = l.toArray.size - n := by simp
  have inv : HeadInv .any l.toArray n (Array.replicate l.toArray.size false) :=
    ⟨by simp, fun j oj _ hj => (by rw [getD_replicate_false] at hj; cases hj), fun t _ ht => getD_in (by simpa using ht) (getD_replicate_false _ _)⟩
  have H := HeadMR.lex (md := .any) (g := l.toArray.size - n) hV sel sink chain hn (l.take n) 0 _ a _ (fun j hj => by
    have : j < n := by omega
    simp [this]) (fun o ho => by simpa using List.all_eq_true.1 hgd o ho) (by simpa using e1) inv (by rw [e1]; exact lex) h
  refine wp_region_any hm ?_
  have R := HeadMR.any (Q := Q) (g := l.toArray.size - n) (fun d a' m' w' hw' hL => by
    have := wpAny_of_seq (md := .any) (Q' := Q) (l.drop n) n d a' w' (fun j => by simp [List.getElem?_drop]) (by rw [e2]; exact hL.1) (hL.2 w' hw')
    rwa [e2] at this) _ _ _ _ { w with drawn := w.drawn + 1 } hG H
  rw [e1, show n + (l.toArray.size - n) = l.toArray.size by omega] at R
  exact R
end
end Go.Proofs.YthmhehehomieiaaGreat

/- The document's graph: a node is made. -/
namespace Go.Proofs.YthmhehehomieiaaGreat
open Go.RowKit Go.Deep

section
variable (U : World) (g : Nat) (vN : Value) (hA : Option Addr) (hc : Nat) (nd : List Nd) (hs : List Int) (lg : Int) (m n sb : Nat)

/-- What was made so far of the node, ahead of the append. -/
structure NdA (mm : Made) (W : World) : Prop where
  no : mm 13 = none
  bel : Below U.heap.size U W
  i7 : ∀ v, mm 7 = some v → ∃ p, v = .slice (some ⟨p, 0, none⟩) m m ∧ U.heap.size ≤ p ∧ Blk W p (ints (List.replicate m 0)).toArray 3
  i10 : ∀ v, mm 10 = some v → ∃ s, v = .slice (some ⟨s, 0, none⟩) n n ∧ U.heap.size ≤ s ∧ Blk W s (wordsU (List.replicate n 0)).toArray 51
  i11 : ∀ v, mm 11 = some v → (mm 7 ≠ none ∧ mm 10 ≠ none) ∧ ∃ p s, v = .agg #[.slice (some ⟨p, 0, none⟩) m m, .slice (some ⟨s, 0, none⟩) n n] ∧ U.heap.size ≤ p ∧ U.heap.size ≤ s ∧ Blk W p (ints (List.replicate m 0)).toArray 3 ∧ Blk W s (wordsU (List.replicate n 0)).toArray 51
  i12 : ∀ v, mm 12 = some v → (mm 7 ≠ none ∧ mm 10 ≠ none) ∧ ∃ p s q, v = .slice (some ⟨q, 0, none⟩) 1 1 ∧ Mk U W g vN hA hc nd hs lg p s q m n

/-- Behind the append. -/
def NdB (mm : Made) (W : World) : Prop :=
  (mm 7 ≠ none ∧ mm 10 ≠ none ∧ mm 12 ≠ none) ∧ ∃ g' cap, mm 13 = some (.slice (some ⟨g', 0, none⟩) (nd.length + 1 + 1) cap) ∧ W.frozen? ⟨g, 0, none⟩ = false ∧ AddR U g vN hA hc nd hs lg m n (W.setCell ⟨g, 0, none⟩ (.slice (some ⟨g', 0, none⟩) (nd.length + 1 + 1) cap))

def NdG (mm : Made) (W : World) : Prop :=
  (W.cell? ⟨g, 0, none⟩ = some vN ∧ W.cell? ⟨sb, 2, none⟩ = some (.int .i64 (m : Int)) ∧ W.cell? ⟨sb, 3, none⟩ = some (.int .i64 (n : Int))) ∧ (NdA U g vN hA hc nd hs lg m n mm W ∨ NdB U g vN hA hc nd hs lg m n mm W)

def NdV : Nat → Value → Prop
  | 4, v => v = vN
  | 6, v => v = .int .i64 (m : Int)
  | 7, v => ∃ p, v = .slice (some ⟨p, 0, none⟩) m m
  | 9, v => v = .int .i64 (n : Int)
  | 10, v => ∃ s, v = .slice (some ⟨s, 0, none⟩) n n
  | 11, v => ∃ p s, v = .agg #[.slice (some ⟨p, 0, none⟩) m m, .slice (some ⟨s, 0, none⟩) n n]
  | 12, v => ∃ q, v = .slice (some ⟨q, 0, none⟩) 1 1
  | 13, v => ∃ g' cap, v = .slice (some ⟨g', 0, none⟩) (nd.length + 1 + 1) cap
  | 3, v => v = .pointer (some ⟨g, 0, none⟩)
  | 5, v => v = .pointer (some ⟨sb, 2, none⟩)
  | 8, v => v = .pointer (some ⟨sb, 3, none⟩)
  | _, v => v = .pointer (some ⟨g, 0, none⟩)
end

section
variable {U : World} {g : Nat} {vN : Value} {hA : Option Addr} {hc : Nat} {nd : List Nd} {hs : List Int} {lg : Int} {m n sb : Nat} {mm : Made} {W : World}

theorem ndV_some (k : Nat) : ∃ v, NdV g vN nd m n sb k v := by
  rcases k with _ | _ | _ | _ | _ | _ | _ | _ | _ | _ | _ | _ | _ | _ | k
  all_goals first | exact ⟨_, rfl⟩ | exact ⟨_, 0, rfl⟩ | exact ⟨_, 0, 0, rfl⟩

theorem Mk.grow {W' : World} {p s q : Nat} (h : Mk U W g vN hA hc nd hs lg p s q m n) (f : Below W.heap.size W W') : Mk U W' g vN hA hc nd hs lg p s q m n :=
  ⟨below_trans h.bel f, h.isg, h.bp.keep f, h.bs.keep f, h.bn.keep f, h.np, h.ns⟩

theorem NdA.grow {W' : World} (h : NdA U g vN hA hc nd hs lg m n mm W) (f : Below W.heap.size W W') : NdA U g vN hA hc nd hs lg m n mm W' where
  no := h.no
  bel := below_trans h.bel f
  i7 v e := by obtain ⟨p, h1, h2, h3⟩ := h.i7 v e; exact ⟨p, h1, h2, h3.keep f⟩
  i10 v e := by obtain ⟨p, h1, h2, h3⟩ := h.i10 v e; exact ⟨p, h1, h2, h3.keep f⟩
  i11 v e := by obtain ⟨h0, p, s, h1, h2, h3, h4, h5⟩ := h.i11 v e; exact ⟨h0, p, s, h1, h2, h3, h4.keep f, h5.keep f⟩
  i12 v e := by obtain ⟨h0, p, s, q, h1, h2⟩ := h.i12 v e; exact ⟨h0, p, s, q, h1, h2.grow f⟩

theorem NdG.cells (h : NdG U g vN hA hc nd hs lg m n sb mm W) {W' : World} (f : Below W.heap.size W W') :
    W'.cell? ⟨g, 0, none⟩ = some vN ∧ W'.cell? ⟨sb, 2, none⟩ = some (.int .i64 (m : Int)) ∧ W'.cell? ⟨sb, 3, none⟩ = some (.int .i64 (n : Int)) := by
  have lt : ∀ {a : Addr} {v : Value}, W.cell? a = some v → a.block < W.heap.size := fun {a v} e => by
    by_cases hb : a.block < W.heap.size
    · exact hb
    · exfalso
      unfold World.cell? at e
      rw [Array.getElem?_eq_none (by omega)] at e
      simp at e
  obtain ⟨⟨h1, h2, h3⟩, _⟩ := h
  exact ⟨(f.cell (lt h1)).trans h1, (f.cell (lt h2)).trans h2, (f.cell (lt h3)).trans h3⟩

theorem NdG.start (h : IsG U g vN hA hc nd hs lg) (h2 : U.cell? ⟨sb, 2, none⟩ = some (.int .i64 (m : Int))) (h3 : U.cell? ⟨sb, 3, none⟩ = some (.int .i64 (n : Int))) : NdG U g vN hA hc nd hs lg m n sb (fun _ => none) U :=
  ⟨⟨h.blk.cell 0, h2, h3⟩, .inl ⟨rfl, Below.refl _ _, fun v e => (by cases e), fun v e => (by cases e), fun v e => (by cases e), fun v e => (by cases e)⟩⟩

theorem NdG.pure (h : NdG U g vN hA hc nd hs lg m n sb mm W) (i : Nat) (v : Value) (hi : i ≠ 7 ∧ i ≠ 10 ∧ i ≠ 11 ∧ i ≠ 12 ∧ i ≠ 13) : NdG U g vN hA hc nd hs lg m n sb (mm.upd i v) W := by
  obtain ⟨n7, n10, n11, n12, n13⟩ := hi
  have e7 : (mm.upd i v) 7 = mm 7 := Made.upd_ne v (Ne.symm n7)
  have e10 : (mm.upd i v) 10 = mm 10 := Made.upd_ne v (Ne.symm n10)
  have e11 : (mm.upd i v) 11 = mm 11 := Made.upd_ne v (Ne.symm n11)
  have e12 : (mm.upd i v) 12 = mm 12 := Made.upd_ne v (Ne.symm n12)
  have e13 : (mm.upd i v) 13 = mm 13 := Made.upd_ne v (Ne.symm n13)
  refine ⟨h.1, h.2.imp (fun k => ⟨e13 ▸ k.no, k.bel, ?_, ?_, ?_, ?_⟩) fun k => ?_⟩
  · rw [e7]; exact k.i7
  · rw [e10]; exact k.i10
  · rw [e7, e10, e11]; exact k.i11
  · rw [e7, e10, e12]; exact k.i12
  · unfold NdB at *
    rw [e7, e10, e12, e13]
    exact k

/-- What an operation makes that the node consists of: only ahead of the append. -/
theorem NdG.ahead (h : NdG U g vN hA hc nd hs lg m n sb mm W) (h0 : mm 7 = none ∨ mm 10 = none ∨ mm 12 = none ∨ mm 13 = none) : NdA U g vN hA hc nd hs lg m n mm W := by
  rcases h.2 with k | ⟨⟨k7, k10, k12⟩, g', cap, k13, _⟩
  · exact k
  · rcases h0 with e | e | e | e
    · exact absurd e k7
    · exact absurd e k10
    · exact absurd e k12
    · rw [e] at k13; cases k13

theorem NdG.make7 (h : NdG U g vN hA hc nd hs lg m n sb mm W) (h0 : mm 7 = none) : NdG U g vN hA hc nd hs lg m n sb (mm.upd 7 (.slice (some ⟨W.heap.size, 0, none⟩) m m)) (W.alloc (bxI m)) := by
  have k := h.ahead (.inl h0)
  have f : Below W.heap.size W (W.alloc (bxI m)) := (Below.refl _ _).alloc (Nat.le_refl _) _
  have q := k.grow f
  refine ⟨h.cells f, .inl ⟨k.no, q.bel, fun v e => ?_, q.i10, fun v e => ?_, fun v e => ?_⟩⟩
  · have e1 : some (Value.slice (some ⟨W.heap.size, 0, none⟩) m m) = some v := e
    cases e1
    exact ⟨_, rfl, k.bel.size, Blk.new W _ _⟩
  · exact absurd h0 (k.i11 v e).1.1
  · exact absurd h0 (k.i12 v e).1.1

theorem NdG.make10 (h : NdG U g vN hA hc nd hs lg m n sb mm W) (h0 : mm 10 = none) : NdG U g vN hA hc nd hs lg m n sb (mm.upd 10 (.slice (some ⟨W.heap.size, 0, none⟩) n n)) (W.alloc (bxU n)) := by
  have k := h.ahead (.inr (.inl h0))
  have f : Below W.heap.size W (W.alloc (bxU n)) := (Below.refl _ _).alloc (Nat.le_refl _) _
  have q := k.grow f
  refine ⟨h.cells f, .inl ⟨k.no, q.bel, q.i7, fun v e => ?_, fun v e => ?_, fun v e => ?_⟩⟩
  · have e1 : some (Value.slice (some ⟨W.heap.size, 0, none⟩) n n) = some v := e
    cases e1
    exact ⟨_, rfl, k.bel.size, Blk.new W _ _⟩
  · exact absurd h0 (k.i11 v e).1.2
  · exact absurd h0 (k.i12 v e).1.2

theorem NdG.make11 {p s : Nat} (h : NdG U g vN hA hc nd hs lg m n sb mm W) (h7 : mm 7 = some (.slice (some ⟨p, 0, none⟩) m m)) (h10 : mm 10 = some (.slice (some ⟨s, 0, none⟩) n n)) :
    NdG U g vN hA hc nd hs lg m n sb (mm.upd 11 (.agg #[.slice (some ⟨p, 0, none⟩) m m, .slice (some ⟨s, 0, none⟩) n n])) W := by
  refine ⟨h.1, h.2.imp (fun k => ⟨k.no, k.bel, k.i7, k.i10, fun v e => ?_, k.i12⟩) fun k => k⟩
  have e1 : some (Value.agg #[.slice (some ⟨p, 0, none⟩) m m, .slice (some ⟨s, 0, none⟩) n n]) = some v := e
  cases e1
  obtain ⟨p', e7, hp, bp⟩ := k.i7 _ h7
  obtain ⟨s', e10, hs', bs⟩ := k.i10 _ h10
  cases e7
  cases e10
  exact ⟨⟨by show mm 7 ≠ none; rw [h7]; simp, by show mm 10 ≠ none; rw [h10]; simp⟩, p, s, rfl, hp, hs', bp, bs⟩

theorem NdG.make12 {p s : Nat} (hI : IsG U g vN hA hc nd hs lg) (h : NdG U g vN hA hc nd hs lg m n sb mm W) (h11 : mm 11 = some (.agg #[.slice (some ⟨p, 0, none⟩) m m, .slice (some ⟨s, 0, none⟩) n n])) (h0 : mm 12 = none) :
    NdG U g vN hA hc nd hs lg m n sb (mm.upd 12 (.slice (some ⟨W.heap.size, 0, none⟩) 1 1)) (W.alloc (bxN p s m n)) := by
  have k := h.ahead (.inr (.inr (.inl h0)))
  have f : Below W.heap.size W (W.alloc (bxN p s m n)) := (Below.refl _ _).alloc (Nat.le_refl _) _
  have q := k.grow f
  refine ⟨h.cells f, .inl ⟨k.no, q.bel, q.i7, q.i10, q.i11, fun v e => ?_⟩⟩
  have e1 : some (Value.slice (some ⟨W.heap.size, 0, none⟩) 1 1) = some v := e
  cases e1
  obtain ⟨h710, p', s', e11, hp, hs', bp, bs⟩ := q.i11 _ h11
  cases e11
  exact ⟨h710, p, s, W.heap.size, rfl, q.bel, hI, bp, bs, Blk.new W _ _, hp, hs'⟩

theorem NdG.make13 {cs : Array Value} {q : Nat} (h : NdG U g vN hA hc nd hs lg m n sb mm W) (hm : m ≤ 64) (hn : n ≤ 64) (few : nd.length < 1048576) (h12 : mm 12 = some (.slice (some ⟨q, 0, none⟩) 1 1)) (h0 : mm 13 = none) (hB : Blk U sb cs 53) (c2 : cs[2]? = some (.int .i64 (m : Int))) (c3 : cs[3]? = some (.int .i64 (n : Int))) :
    ∃ p s, Mk U W g vN hA hc nd hs lg p s q m n ∧ ∀ (g' cap : Nat) (w1 : World) (_ : w1.ownsRow 0 120 2 (.slice (some ⟨g', 0, none⟩) (nd.length + 1 + 1) cap) (nd.length + 1 + 1) (ndV nd ++ [Value.slice (some ⟨p, 0, none⟩) m m, .slice (some ⟨s, 0, none⟩) n n])) (_ : W.grownBy w1 vN.ownBlock) (_ : vN.ownBlock = some g' ∨ g' = W.heap.size),
      NdG U g vN hA hc nd hs lg m n sb (mm.upd 13 (.slice (some ⟨g', 0, none⟩) (nd.length + 1 + 1) cap)) w1 := by
  have k := h.ahead (.inr (.inr (.inr h0)))
  obtain ⟨⟨n7, n10⟩, p, s, q', e12, K⟩ := k.i12 _ h12
  cases e12
  refine ⟨p, s, K, fun g' cap w1 own gr hat => ?_⟩
  obtain ⟨x3, xf⟩ := K.cells gr
  have kb := K.box gr hB (by decide)
  obtain ⟨x, hx⟩ := K.done hm hn few own gr hat rfl
  exact ⟨⟨x3, (kb.cell 2).trans c2, (kb.cell 3).trans c3⟩, .inr ⟨⟨n7, n10, by show mm 12 ≠ none; rw [h12]; simp⟩, g', cap, rfl, xf, g', cap, x, hx⟩⟩

theorem made_append {P : Program} {w : World} {o : Oper} {a : Act} {V : Value → Prop} {T : Value → World → Prop} (s x : Operand) (t : TypeId) (ho : o.op = .call { callee := .builtin .append, args := #[s, x], argTypes := #[t, t] })
    (e : TypeId) (i : TypeInfo) (z : Value) (size bytes : Nat) (ht : P.underlying t = some (.slice e)) (hi : P.info? e = some i) (hz : i.zero = some z) (hsize : i.size = size) (hby : i.bytes = bytes) (hzs : z.cells.size = size) (hsz : 0 < size)
    (v : Value) (k : Nat) (xs : List Value) (hs : a.eval s = v) (hown : w.ownsRow 0 e size v k xs) (ad : Addr) (c : Nat) (news : List Value) (hx : a.eval x = .slice (some ad) 1 c) (hl : news.length = 1 * size)
    (hnews : ∀ j u, news[j]? = some u → w.cell? (ad.add j) = some u) (h1 : ∀ u ∈ news, u.oneCell' = true) (h63 : k + 1 ≤ maxLen) (hbytes : (k + 1) * bytes ≤ 140737488355328)
    (h : ∀ g cap w', w'.ownsRow 0 e size (.slice (some ⟨g, 0, none⟩) (k + 1) cap) (k + 1) (xs ++ news) → w.grownBy w' v.ownBlock → (v.ownBlock = some g ∨ g = w.heap.size) → V (.slice (some ⟨g, 0, none⟩) (k + 1) cap) ∧ T (.slice (some ⟨g, 0, none⟩) (k + 1) cap) w') :
    madeUpon P V T ((execOp a.eval o).run P w) := by
  obtain ⟨g, cap, w', hr, h2, h3, h4, _⟩ := run_append_lies (P := P) w t o.type 0 e i z size bytes ht hi hz hsize hby hzs hsz v k xs hown ad 1 c news hl hnews h1 (by omega) h63 hbytes (Nat.zero_le _) w.heap.size rfl
  unfold execOp
  simp only [ho, resolve, invoke, builtin, Sem.run_bind, Sem.run_pure, Result.andThen_ok, List.map_toArray, List.map_cons, List.map_nil, hs, hx, hr]
  exact h g cap w' h2 h3 h4

theorem NdG.end_ {v : Value} (h : NdG U g vN hA hc nd hs lg m n sb mm W) (h13 : mm 13 = some v) :
    ∃ g' cap, v = .slice (some ⟨g', 0, none⟩) (nd.length + 1 + 1) cap ∧ W.cell? ⟨g, 0, none⟩ = some vN ∧ W.frozen? ⟨g, 0, none⟩ = false ∧ AddR U g vN hA hc nd hs lg m n (W.setCell ⟨g, 0, none⟩ (.slice (some ⟨g', 0, none⟩) (nd.length + 1 + 1) cap)) := by
  rcases h.2 with k | ⟨_, g', cap, k13, hf, hr⟩
  · rw [k.no] at h13; cases h13
  · rw [k13] at h13
    cases h13
    exact ⟨g', cap, rfl, h.1.1, hf, hr⟩
end

attribute [local go_sem] madeUpon

section
variable (w : World) (g : Nat) (S : Nat → Prop) (G : Gr) (a b c v : Int)

set_option maxRecDepth 100000 in
set_option maxHeartbeats 16000000 in
theorem rgMake_yes (r : Rg w g S G) (hh : G.has a = true) (hb0 : 0 ≤ b) (hc0 : 0 ≤ c) (hb1 : b ≤ G.lg) (hc1 : c ≤ G.lg - b) (few : G.ns.length < 1048576) :
    Calls Tryz.prog 71 #[.pointer (some ⟨g, 0, none⟩), sgV 1 a b c v] w fun e w' => ChR w g S G 1 a b c v e w' := by
  have al : Below w.heap.size w (w.alloc (stB 1 a b c v)) := (Below.refl _ _).alloc (Nat.le_refl _) _
  have HH := Lib.hid (rgHas_any _ g S G a (r.keep al))
  rw [hh] at HH
  obtain ⟨i, x, rfl, hl, hx, hv, x0, x1⟩ := r.at_ hh
  obtain ⟨m, rfl⟩ : ∃ m : Nat, b = m := ⟨b.toNat, by omega⟩
  obtain ⟨n, rfl⟩ : ∃ n : Nat, c = n := ⟨c.toNat, by omega⟩
  obtain ⟨vN, hA, hc, nd, hi, eN, rfl⟩ := r
  have nl : G.ns.length = nd.length := by rw [eN, List.length_map]
  have ec : G.change 1 i m n v = (0, { G with ns := G.ns ++ [(List.replicate m 0, List.replicate n 0)], hs := G.hs.set i (nd.length + 1) }) := by
    unfold Gr.change
    rw [if_pos rfl, if_pos hh, if_neg (by omega), nl, Int.toNat_natCast, Int.toNat_natCast, Int.toNat_natCast]
  have HK := Lib.hid (hi.keep al)
  have l1 := hi.lg1
  have m64 : m ≤ 64 := by omega
  have n64 : n ≤ 64 := by omega
  have fewn : nd.length < 1048576 := by omega
  have HA := Lib.hid (And.intro al (And.intro ec (And.intro eN hx)))
  have hf := hi.hfew
  have kb := Blk.new w #[.int .i64 1, .int .i64 i, .int .i64 m, .int .i64 n, .int .u64 v] 53
  have HB := Lib.hid kb
  obtain ⟨c0, c1, c2, cf⟩ := HK.out.four
  have s1 := kb.cell 1
  have s2 := kb.cell 2
  have s3 := kb.cell 3
  have d1 : decide ((m : Int) < 0) = false := decide_eq_false (by omega)
  have d2 : decide ((n : Int) < 0) = false := decide_eq_false (by omega)
  have d3 : decide (G.lg < (m : Int)) = false := decide_eq_false (by omega)
  have d3' : decide ((m : Int) > G.lg) = false := decide_eq_false (by omega)
  have d4 : decide (G.lg - (m : Int) < (n : Int)) = false := decide_eq_false (by omega)
  have d4' : decide ((n : Int) > G.lg - (m : Int)) = false := decide_eq_false (by omega)
  have wl : IntKind.i64.wrap (G.lg - (m : Int)) = G.lg - (m : Int) := IntWalk.i64_in _ (by have := hi.lg0; omega)
  clear hi eN hx hv x0 x1 nl ec kb al hh few
  go_enter Tryz.func71, Tryz.ntmps71
  go_wp2_with fail
  refine HH.out.mono ?_
  rintro e w1 ⟨rfl, rfl⟩
  clear HH
  go_wp2_with fail
  go_big_quiet (fail)
  go_wp2_with fail
  clear c0 c1 c2 cf s1 s2 s3 d1 d2 d3 d3' d4 d4' wl
  have b9 := Lib.hid (below_drewN (w.alloc (stB 1 i m n v)) nq)
  have HG := Lib.hid (HK.out.keep b9.out)
  have HS := Lib.hid (HB.out.keep b9.out)
  have HL := Lib.hid (below_trans HA.out.1 b9.out)
  clear HK HB b9
  generalize (w.alloc (stB 1 i m n v)).drewN nq = U at HG HS HL ⊢
  generalize w.heap.size = sbk at HS ⊢
  go_cut [0] (fun s wc => s = .pointer (some ⟨g, 0, none⟩) ∧ Hid (AddR U g vN hA hc nd G.hs G.lg m n wc))
  case first =>

    as_aux_lemma =>
    have hI : Hid (IsG U.drew g vN hA hc nd G.hs G.lg) := Lib.hid (HG.out.keep (below_drew U))
    have HB2 := Lib.hid (HS.out.drew)
    have hmI := rgMakeI m m64
    have hmU := rgMakeU n n64
    obtain ⟨i0, hi0, hz, hs0, hby⟩ := info_parts info_node
    have HI0 := Lib.hid (And.intro hi0 (And.intro hz (And.intro hs0 hby)))
    have LW := Lib.hid (show nd.length + 1 + 1 ≤ maxLen from by unfold maxLen; omega)
    have M6 := Lib.hid (And.intro m64 (And.intro n64 fewn))
    have GO := Lib.hid (NdG.start (sb := sbk) (m := m) (n := n) hI.out (HB2.out.cell 2) (HB2.out.cell 3))
    clear hi0 hz hs0 hby
    clear hl hf l1 fewn hb0 hb1 hc0 hc1 HL HA
    go_wp2
    refine region_made_tailR (NdG U.drew g vN hA hc nd G.hs G.lg m n sbk) (NdV g vN nd m n sbk) 14 (by kernel_rfl) (by kernel_rfl) (by kernel_rfl) (ndV_some) GO.out ?_
    simp only [List.take_succ_cons, List.take_zero, List.drop_succ_cons, List.drop_zero]

    refine wpMadeR_step ?_ ?_
    · intro m' w' hg hag
      go_simp
      exact ⟨rfl, hg.pure _ _ (by decide)⟩
    intro K hK
    rintro _ rfl
    go_simp
    refine hK _ _ ?_
    clear hK K
    refine wpMadeR_step ?_ ?_
    · intro m' w' hg hag
      go_simp
      exact ⟨rfl, hg.pure _ _ (by decide)⟩
    intro K hK
    rintro _ rfl
    go_simp
    refine hK _ _ ?_
    clear hK K
    refine wpMadeR_step ?_ ?_
    · intro m' w' hg hag
      go_simp
      exact ⟨rfl, hg.pure _ _ (by decide)⟩
    intro K hK
    rintro _ rfl
    go_simp
    refine hK _ _ ?_
    clear hK K
    refine wpMadeR_step ?_ ?_
    · intro m' w' hg hag
      go_simp
      exact ⟨rfl, hg.pure _ _ (by decide)⟩
    intro K hK
    rintro _ rfl
    go_simp
    refine hK _ _ ?_
    clear hK K
    refine wpMadeR_step ?_ ?_
    · intro m' w' hg hag
      obtain ⟨q1, q2, q3⟩ := hg.1
      go_simp
      exact ⟨rfl, hg.pure _ _ (by decide)⟩
    intro K hK
    rintro _ rfl
    go_simp
    refine hK _ _ ?_
    clear hK K
    refine wpMadeR_step ?_ ?_
    · intro m' w' hg hag
      go_simp
      exact ⟨rfl, hg.pure _ _ (by decide)⟩
    intro K hK
    rintro _ rfl
    go_simp
    refine hK _ _ ?_
    clear hK K
    refine wpMadeR_step ?_ ?_
    · intro m' w' hg hag
      obtain ⟨q1, q2, q3⟩ := hg.1
      go_simp
      exact ⟨rfl, hg.pure _ _ (by decide)⟩
    intro K hK
    rintro _ rfl
    go_simp
    refine hK _ _ ?_
    clear hK K
    refine wpMadeR_step ?_ ?_
    · intro m' w' hg hag
      have h0 : m' 7 = none := hag 7 (.inl rfl)
      go_simp
      exact ⟨⟨_, rfl⟩, hg.make7 h0⟩
    intro K hK
    rintro _ ⟨k7, rfl⟩
    go_simp
    refine hK _ _ ?_
    clear hK K
    refine wpMadeR_step ?_ ?_
    · intro m' w' hg hag
      go_simp
      exact ⟨rfl, hg.pure _ _ (by decide)⟩
    intro K hK
    rintro _ rfl
    go_simp
    refine hK _ _ ?_
    clear hK K
    refine wpMadeR_step ?_ ?_
    · intro m' w' hg hag
      obtain ⟨q1, q2, q3⟩ := hg.1
      go_simp
      exact ⟨rfl, hg.pure _ _ (by decide)⟩
    intro K hK
    rintro _ rfl
    go_simp
    refine hK _ _ ?_
    clear hK K
    refine wpMadeR_step ?_ ?_
    · intro m' w' hg hag
      have h0 : m' 10 = none := hag 10 (.inl rfl)
      go_simp
      exact ⟨⟨_, rfl⟩, hg.make10 h0⟩
    intro K hK
    rintro _ ⟨k10, rfl⟩
    go_simp
    refine hK _ _ ?_
    clear hK K
    refine wpMadeR_step ?_ ?_
    · intro m' w' hg hag
      have h7 : m' 7 = some (.slice (some ⟨k7, 0, none⟩) m m) := hag 7 (.inr ⟨⟨7, .data⟩, by simp, by rfl, rfl⟩)
      have h10 : m' 10 = some (.slice (some ⟨k10, 0, none⟩) n n) := hag 10 (.inr ⟨⟨10, .data⟩, by simp, by rfl, rfl⟩)
      go_simp
      exact ⟨⟨_, _, rfl⟩, hg.make11 h7 h10⟩
    intro K hK
    rintro _ ⟨p11, s11, rfl⟩
    go_simp
    refine hK _ _ ?_
    clear hK K
    refine wpMadeR_step ?_ ?_
    · intro m' w' hg hag
      have h11 : m' 11 = some (.agg #[.slice (some ⟨p11, 0, none⟩) m m, .slice (some ⟨s11, 0, none⟩) n n]) := hag 11 (.inr ⟨⟨11, .data⟩, by simp, by rfl, rfl⟩)
      have h0 : m' 12 = none := hag 12 (.inl rfl)
      go_simp
      exact ⟨⟨_, rfl⟩, hg.make12 hI.out h11 h0⟩
    intro K hK
    rintro _ ⟨k12, rfl⟩
    go_simp
    refine hK _ _ ?_
    clear hK K
    refine wpMadeR_step ?_ ?_
    · intro m' w' hg hag
      have h12 : m' 12 = some (.slice (some ⟨k12, 0, none⟩) 1 1) := hag 12 (.inr ⟨⟨12, .data⟩, by simp, by rfl, rfl⟩)
      have h0 : m' 13 = none := hag 13 (.inl rfl)
      obtain ⟨p, s, MK, ME⟩ := hg.make13 M6.out.1 M6.out.2.1 M6.out.2.2 h12 h0 HB2.out rfl rfl
      have M9 := M6.out.2.2
      refine made_append _ _ _ (by rfl) 120 i0 _ 2 48 Tryz.underlying115 HI0.out.1 HI0.out.2.1 HI0.out.2.2.1 HI0.out.2.2.2 rfl (by omega) _ (nd.length + 1) (ndV nd) (by rfl) MK.row ⟨k12, 0, none⟩ 1 _ (by rfl) (by rfl) MK.news (by intro u hu; simp at hu; rcases hu with rfl | rfl <;> rfl) LW.out (by omega) ?_
      intro g' cap w1 own gr hat
      exact ⟨⟨g', cap, rfl⟩, ME g' cap w1 own gr hat⟩
    intro K hK
    rintro _ ⟨g13, c13, rfl⟩
    go_simp
    refine hK _ _ ?_
    clear hK K
    refine wpMadeR_nil ?_
    intro w' hg
    obtain ⟨g', cap, ev, c0, cf, ad⟩ := hg.end_ rfl
    cases ev
    have MD : Hid (AddR U g _ hA hc nd G.hs G.lg m n (w'.setCell ⟨g, 0, none⟩ (.slice (some ⟨g13, 0, none⟩) (nd.length + 1 + 1) c13))) := Lib.hid (by obtain ⟨a1, a2, a3, a4, a5, a6⟩ := ad; exact ⟨a1, a2, a3, a4, a5, Mv.pre (below_drew U) a6⟩)
    clear ad hg hmI hmU HI0 LW M6 GO HB2 hI HG HS m64 n64
    go_wp2
    go_meet
    case rel => exact ⟨rfl, MD⟩
  case rest =>
    obtain ⟨rfl, MD⟩ := hcut
    obtain ⟨g', cap, x, hx, hg2, mv⟩ := MD.out
    have HS2 := Lib.hid (HS.out.frm mv.frm (HG.out.far_ HS.out (by decide) (by decide) (by decide) (by decide)))
    obtain ⟨c0, c1, c2, cf⟩ := hg2.four
    obtain ⟨q, off, rfl, lq, hcx, hfz⟩ := hg2.hrow.at_ (by omega)
    have cx := hcx i _ HA.out.2.2.2
    obtain ⟨K, hK⟩ : ∃ K, nd.length + 1 + 1 = K := ⟨_, rfl⟩
    have wk : IntKind.i64.wrap ((K : Int) - 1) = (nd.length : Int) + 1 := by rw [IntWalk.i64_in _ (by omega)]; omega
    have HE := Lib.hid (fun (w' : World) (f : Below wc.heap.size wc w') => (show ChR w g (gOwn g vN (some ⟨q, off, none⟩) nd) G 1 i m n v (.returned (.int .i64 0)) (w'.setCell ⟨q, off + i, none⟩ (.int .i64 ((nd.length : Int) + 1))) from by
      obtain ⟨h1, m1⟩ := (hg2.keep f).hold i ((nd.length : Int) + 1) (by omega) (by simp)
      unfold ChR
      rw [HA.out.2.1]
      refine ⟨rfl, _, ⟨_, _, hc, _, h1, ?_, rfl⟩, Mv.pre HL.out ((mv.post f).trans m1)⟩
      rw [List.map_append, ← HA.out.2.2.1]
      simp [hx]))
    rw [hK] at c0
    have s1 := HS2.out.cell 1
    have ls := HS2.out.lt
    have lg0 := hg2.blk.lt
    have hf2 : G.hs.length ≤ 64 := hf
    generalize G.hs.length = hn at c1 hl hf2
    clear hg2 mv hx MD HG HS HS2 HL HA hcx hf c2 hK
    go_wp2_with fail
    go_region
    go_wp2
    go_ret
    exact HE.out _ (below_drew _)
end
end Go.Proofs.YthmhehehomieiaaGreat

/- Contracts of the document's graph: Do, an entry of a script. -/
namespace Go.Proofs.YthmhehehomieiaaGreat
open Go.RowKit

/-- What an entry comes to. -/
def DoR (w : World) (g : Nat) (S : Nat → Prop) (G' : Gr) (e : Int) (y : Bool) (n v : Int) (en : Ending) (w' : World) : Prop :=
  en = .returned (anV e y n v) ∧ ∃ S', Rg w' g S' G' ∧ Mv S S' w w'

theorem doR_end {w w2 w1 : World} {g : Nat} {S S' : Nat → Prop} {G G' : Gr} {k : Nat} (r : Rg w g S G) (f : Below w.heap.size w w2) (mv : Mv S S' w2 w1) (r1 : Rg w1 g S' G') (k0 : w.heap.size ≤ k) (k1 : k < w2.heap.size) (e : Int) (y : Bool) (n v : Int) :
    DoR w g S G' e y n v (.returned (anV e y n v)) (anW w1 k e y n v) := by
  have nk : ¬ S' k := fun h => by
    rcases mv.at_ k h with h | h
    · have := r.lt h; omega
    · omega
  have fr := anW_frm w1 k e y n v
  refine ⟨rfl, S', r1.frm fr (fun j hj e => nk (e ▸ hj)), ?_, fun j hj => ?_⟩
  · refine ⟨fr.os.trans (mv.frm.os.trans f.os), fr.tape.trans (mv.frm.tape.trans f.tape), fr.output.trans (mv.frm.output.trans f.output), Nat.le_trans f.size (Nat.le_trans mv.frm.size fr.size), fun j hj hn => ?_⟩
    rw [fr.block j (Nat.lt_of_lt_of_le hj (Nat.le_trans f.size mv.frm.size)) (by omega), mv.frm.block j (Nat.lt_of_lt_of_le hj f.size) hn, f.block j hj]
  · exact (mv.at_ j hj).imp id fun h => Nat.le_trans f.size h

set_option maxRecDepth 100000 in
set_option maxHeartbeats 8000000 in
theorem rgDo_change (w : World) (g : Nat) (S : Nat → Prop) (G : Gr) (k a b c v : Int) (hk : turnsK k) (r : Rg w g S G)
    (hc : ∀ w1, Rg w1 g S G → Calls Tryz.prog 71 #[.pointer (some ⟨g, 0, none⟩), sgV k a b c v] w1 fun e w' => ChR w1 g S G k a b c v e w') :
    Calls Tryz.prog 27 #[.pointer (some ⟨g, 0, none⟩), sgV k a b c v] w fun e w' => DoR w g S (G.change k a b c v).2 (G.change k a b c v).1 false 0 0 e w' := by
  have al : Below w.heap.size w ((w.alloc (stB k a b c v)).alloc anB) := ((Below.refl _ _).alloc (Nat.le_refl _) _).alloc (by simp) _
  have sz : ((w.alloc (stB k a b c v)).alloc anB).heap.size = w.heap.size + 2 := by simp
  have bx := Blk.new (w.alloc (stB k a b c v)) #[.int .i64 0, .bool false, .int .i64 0, .int .u64 0] 55
  rw [show (w.alloc (stB k a b c v)).heap.size = w.heap.size + 1 by simp] at bx
  have hc0 := hc _ (r.keep al)
  unfold ChR at hc0
  generalize G.change k a b c v = X at hc0 ⊢
  obtain ⟨E, G2⟩ := X
  dsimp only at hc0 ⊢
  have HC := Lib.hid hc0
  clear hc0
  have HR := Lib.hid (And.intro r (And.intro al (And.intro bx sz)))
  clear hc r al bx sz
  rcases hk with rfl | rfl | rfl | rfl | rfl | rfl
  all_goals
    go_enter Tryz.func27, Tryz.ntmps27
    go_wp2_with fail
    refine HC.out.mono ?_
    rintro e w1 ⟨rfl, S', r1, mv⟩
    have bx := HR.out.2.2.1.frm mv.frm (fun e => by have := HR.out.1.lt e; omega)
    have HE := Lib.hid (doR_end HR.out.1 HR.out.2.1 mv r1 (k := w.heap.size + 1) (by omega) (by have := HR.out.2.2.2; omega) E false 0 0)
    have HZ := Lib.hid (anW_blk bx E false 0 0)
    have z0 := bx.cell 0
    have z1 := bx.cell 1
    have z2 := bx.cell 2
    have z3 := bx.cell 3
    have zf := bx.frozen
    have zl := bx.lt
    clear bx r1 mv HC HR
    go_wp2
    unfold anW at HE HZ
    generalize (((w1.setCell ⟨w.heap.size + 1, 0, none⟩ (.int .i64 E)).setCell ⟨w.heap.size + 1, 1, none⟩ (.bool false)).setCell ⟨w.heap.size + 1, 2, none⟩ (.int .i64 0)).setCell ⟨w.heap.size + 1, 3, none⟩ (.int .u64 0) = V at HE HZ ⊢
    have y0 := HZ.out.cell 0
    have y1 := HZ.out.cell 1
    have y2 := HZ.out.cell 2
    have y3 := HZ.out.cell 3
    refine bodyPost_ret (v := anV E false 0 0) (by simp [results, Tryz.results27, go_sem, y0, y1, y2, y3]) rfl ?_
    exact HE.out
end Go.Proofs.YthmhehehomieiaaGreat

/- Contracts of the document's graph: Do, entries that ask. -/
namespace Go.Proofs.YthmhehehomieiaaGreat
open Go.RowKit

/-- A step's box and an answer's, and the graph beside them. -/
structure Ax (w W : World) (g : Nat) (S : Nat → Prop) (G : Gr) (k a b c v : Int) : Prop where
  r0 : Rg w g S G
  rg : Rg W g S G
  bel : Below w.heap.size w W
  st : Blk W w.heap.size #[.int .i64 k, .int .i64 a, .int .i64 b, .int .i64 c, .int .u64 v] 53
  an : Blk W (w.heap.size + 1) #[.int .i64 0, .bool false, .int .i64 0, .int .u64 0] 55

theorem ax_make {w : World} {g : Nat} {S : Nat → Prop} {G : Gr} (r : Rg w g S G) (k a b c v : Int) : Ax w ((w.alloc (stB k a b c v)).alloc anB) g S G k a b c v := by
  have al : Below w.heap.size w ((w.alloc (stB k a b c v)).alloc anB) := ((Below.refl _ _).alloc (Nat.le_refl _) _).alloc (by simp) _
  have bx := Blk.new (w.alloc (stB k a b c v)) #[.int .i64 0, .bool false, .int .i64 0, .int .u64 0] 55
  rw [show (w.alloc (stB k a b c v)).heap.size = w.heap.size + 1 by simp] at bx
  exact ⟨r, r.keep al, al, (Blk.new w _ _).alloc _, bx⟩

theorem Ax.keep {w W W' : World} {g : Nat} {S : Nat → Prop} {G : Gr} {k a b c v : Int} (h : Ax w W g S G k a b c v) (f : Below W.heap.size W W') : Ax w W' g S G k a b c v := ⟨h.r0, h.rg.keep f, below_trans h.bel f, h.st.keep f, h.an.keep f⟩

theorem Ax.done {w W : World} {g : Nat} {S : Nat → Prop} {G : Gr} {k a b c v : Int} (h : Ax w W g S G k a b c v) (e : Int) (y : Bool) (n u : Int) :
    DoR w g S G e y n u (.returned (anV e y n u)) (anW W (w.heap.size + 1) e y n u) ∧ Blk (anW W (w.heap.size + 1) e y n u) (w.heap.size + 1) #[.int .i64 e, .bool y, .int .i64 n, .int .u64 u] 55 :=
  ⟨doR_end h.r0 h.bel (Mv.of_below (Below.refl _ _)) h.rg (by omega) h.an.lt e y n u, anW_blk h.an e y n u⟩

/-- The same, said of a world that is drawn once more. -/
theorem DoR.drew {w w' : World} {g : Nat} {S : Nat → Prop} {G : Gr} {e : Int} {y : Bool} {n v : Int} {en : Ending} (h : DoR w g S G e y n v en w') : DoR w g S G e y n v en w'.drew := by
  obtain ⟨h1, S', r, mv⟩ := h
  exact ⟨h1, S', r.keep (below_drew _), mv.post (below_drew _)⟩

section
variable (w : World) (g : Nat) (S : Nat → Prop) (G : Gr) (a b c v : Int)

set_option maxRecDepth 100000 in
set_option maxHeartbeats 8000000 in
theorem rgDo_nil (r : Rg w g S G) : Calls Tryz.prog 27 #[.pointer (some ⟨g, 0, none⟩), sgV 9 a b c v] w fun e w' => DoR w g S G (G.ask 9 a b).1 (G.ask 9 a b).2.1 (G.ask 9 a b).2.2.1 (G.ask 9 a b).2.2.2 e w' := by
  have HX := Lib.hid (ax_make r 9 a b c v)
  have HH := Lib.hid (rgHas_any _ g S G a HX.out.rg)
  cases hb : G.has a
  · rw [hb] at HH
    have ea : G.ask 9 a b = (3, false, 0, 0) := by simp [Gr.ask, hb]
    rw [ea]
    dsimp only
    clear r ea hb
    go_enter Tryz.func27, Tryz.ntmps27
    go_wp2_with fail
    refine HH.out.mono ?_
    rintro e w1 ⟨rfl, rfl⟩
    generalize hW : (w.alloc (stB 9 a b c v)).alloc anB = W at *
    clear hW
    have HE := Lib.hid (HX.out.done 3 false 0 0)
    have z0 := HX.out.an.cell 0
    have z1 := HX.out.an.cell 1
    have z2 := HX.out.an.cell 2
    have z3 := HX.out.an.cell 3
    have zf := HX.out.an.frozen
    have zl := HX.out.an.lt
    have s0 := HX.out.st.cell 0
    have s1 := HX.out.st.cell 1
    have s2 := HX.out.st.cell 2
    have sl := HX.out.st.lt
    clear HX HH
    go_wp2
    unfold anW at HE
    generalize (((W.setCell ⟨w.heap.size + 1, 0, none⟩ (.int .i64 3)).setCell ⟨w.heap.size + 1, 1, none⟩ (.bool false)).setCell ⟨w.heap.size + 1, 2, none⟩ (.int .i64 0)).setCell ⟨w.heap.size + 1, 3, none⟩ (.int .u64 0) = V at HE ⊢
    clear z0 z1 z2 z3 zf
    have y0 := HE.out.2.cell 0
    have y1 := HE.out.2.cell 1
    have y2 := HE.out.2.cell 2
    have y3 := HE.out.2.cell 3
    refine bodyPost_ret (v := anV 3 false 0 0) (by simp [results, Tryz.results27, go_sem, y0, y1, y2, y3]) rfl ?_
    exact HE.out.1
  · rw [hb] at HH
    obtain ⟨i, x, rfl, hl, hx, hv, x0, x1⟩ := r.at_ hb
    have ea : G.ask 9 i b = (0, x == 0, 0, 0) := by simp [Gr.ask, hb, hv]
    rw [ea]
    dsimp only
    have HV := Lib.hid hx
    clear r hb ea hx hv
    go_enter Tryz.func27, Tryz.ntmps27
    go_wp2_with fail
    refine HH.out.mono ?_
    rintro e w1 ⟨rfl, rfl⟩
    generalize hW : (w.alloc (stB 9 i b c v)).alloc anB = W at *
    clear hW
    clear HH
    have HE := Lib.hid (HX.out.done 0 (x == 0) 0 0)
    have z0 := HX.out.an.cell 0
    have z1 := HX.out.an.cell 1
    have z2 := HX.out.an.cell 2
    have z3 := HX.out.an.cell 3
    have zf := HX.out.an.frozen
    have zl := HX.out.an.lt
    have s0 := HX.out.st.cell 0
    have s1 := HX.out.st.cell 1
    have s2 := HX.out.st.cell 2
    have sl := HX.out.st.lt
    obtain ⟨vN, hA, hc, nd, hi, eN, eS⟩ := HX.out.rg
    clear eS
    obtain ⟨c0, c1, c2, cf⟩ := hi.four
    have gl := hi.blk.lt
    obtain ⟨q, off, rfl, lq, hcx, _⟩ := hi.hrow.at_ (by omega)
    have hf := hi.hfew
    have cx := hcx i x HV.out
    generalize G.hs.length = n at c1 hl hf
    clear hi eN hcx HX c0 c2 HV
    go_wp2_with fail
    go_region
    unfold anW at HE
    generalize (((W.setCell ⟨w.heap.size + 1, 0, none⟩ (.int .i64 0)).setCell ⟨w.heap.size + 1, 1, none⟩ (.bool (x == 0))).setCell ⟨w.heap.size + 1, 2, none⟩ (.int .i64 0)).setCell ⟨w.heap.size + 1, 3, none⟩ (.int .u64 0) = V at HE ⊢
    clear z0 z1 z2 z3 zf
    have y0 := HE.out.2.cell 0
    have y1 := HE.out.2.cell 1
    have y2 := HE.out.2.cell 2
    have y3 := HE.out.2.cell 3
    have y0 : V.drew.cell? ⟨w.heap.size + 1, 0, none⟩ = _ := y0
    have y1 : V.drew.cell? ⟨w.heap.size + 1, 1, none⟩ = _ := y1
    have y2 : V.drew.cell? ⟨w.heap.size + 1, 2, none⟩ = _ := y2
    have y3 : V.drew.cell? ⟨w.heap.size + 1, 3, none⟩ = _ := y3
    go_wp2
    refine bodyPost_ret (v := anV 0 (x == 0) 0 0) (by simp [results, Tryz.results27, go_sem, y0, y1, y2, y3]) rfl ?_
    exact HE.out.1.drew

set_option maxRecDepth 100000 in
set_option maxHeartbeats 8000000 in
theorem rgDo_same (r : Rg w g S G) : Calls Tryz.prog 27 #[.pointer (some ⟨g, 0, none⟩), sgV 8 a b c v] w fun e w' => DoR w g S G (G.ask 8 a b).1 (G.ask 8 a b).2.1 (G.ask 8 a b).2.2.1 (G.ask 8 a b).2.2.2 e w' := by
  have HX := Lib.hid (ax_make r 8 a b c v)
  have HH := Lib.hid (rgHas_any _ g S G a HX.out.rg)
  have HB := Lib.hid (rgHas_any _ g S G b HX.out.rg)
  cases ha : G.has a
  · rw [ha] at HH
    clear HB
    have ea : G.ask 8 a b = (3, false, 0, 0) := by simp [Gr.ask, ha]
    rw [ea]
    dsimp only
    clear r ea ha
    go_enter Tryz.func27, Tryz.ntmps27
    go_wp2_with fail
    refine HH.out.mono ?_
    rintro e w1 ⟨rfl, rfl⟩
    generalize hW : (w.alloc (stB 8 a b c v)).alloc anB = W at *
    clear hW
    have HE := Lib.hid (HX.out.done 3 false 0 0)
    have z0 := HX.out.an.cell 0
    have z1 := HX.out.an.cell 1
    have z2 := HX.out.an.cell 2
    have z3 := HX.out.an.cell 3
    have zf := HX.out.an.frozen
    have zl := HX.out.an.lt
    have s0 := HX.out.st.cell 0
    have s1 := HX.out.st.cell 1
    have s2 := HX.out.st.cell 2
    have sl := HX.out.st.lt
    clear HX HH
    go_wp2
    unfold anW at HE
    generalize (((W.setCell ⟨w.heap.size + 1, 0, none⟩ (.int .i64 3)).setCell ⟨w.heap.size + 1, 1, none⟩ (.bool false)).setCell ⟨w.heap.size + 1, 2, none⟩ (.int .i64 0)).setCell ⟨w.heap.size + 1, 3, none⟩ (.int .u64 0) = V at HE ⊢
    clear z0 z1 z2 z3 zf
    have y0 := HE.out.2.cell 0
    have y1 := HE.out.2.cell 1
    have y2 := HE.out.2.cell 2
    have y3 := HE.out.2.cell 3
    refine bodyPost_ret (v := anV 3 false 0 0) (by simp [results, Tryz.results27, go_sem, y0, y1, y2, y3]) rfl ?_
    exact HE.out.1
  · rw [ha] at HH
    cases hb : G.has b
    · rw [hb] at HB
      have ea : G.ask 8 a b = (3, false, 0, 0) := by simp [Gr.ask, ha, hb]
      rw [ea]
      dsimp only
      clear r ea ha hb
      go_enter Tryz.func27, Tryz.ntmps27
      go_wp2_with fail
      refine HH.out.mono ?_
      rintro e w1 ⟨rfl, rfl⟩
      go_wp2_with fail
      refine HB.out.mono ?_
      rintro e w1 ⟨rfl, rfl⟩
      generalize hW : (w.alloc (stB 8 a b c v)).alloc anB = W at *
      clear hW
      have HE := Lib.hid (HX.out.done 3 false 0 0)
      have z0 := HX.out.an.cell 0
      have z1 := HX.out.an.cell 1
      have z2 := HX.out.an.cell 2
      have z3 := HX.out.an.cell 3
      have zf := HX.out.an.frozen
      have zl := HX.out.an.lt
      have s0 := HX.out.st.cell 0
      have s1 := HX.out.st.cell 1
      have s2 := HX.out.st.cell 2
      have sl := HX.out.st.lt
      clear HX HH HB
      go_wp2
      unfold anW at HE
      generalize (((W.setCell ⟨w.heap.size + 1, 0, none⟩ (.int .i64 3)).setCell ⟨w.heap.size + 1, 1, none⟩ (.bool false)).setCell ⟨w.heap.size + 1, 2, none⟩ (.int .i64 0)).setCell ⟨w.heap.size + 1, 3, none⟩ (.int .u64 0) = V at HE ⊢
      clear z0 z1 z2 z3 zf
      have y0 := HE.out.2.cell 0
      have y1 := HE.out.2.cell 1
      have y2 := HE.out.2.cell 2
      have y3 := HE.out.2.cell 3
      refine bodyPost_ret (v := anV 3 false 0 0) (by simp [results, Tryz.results27, go_sem, y0, y1, y2, y3]) rfl ?_
      exact HE.out.1
    · rw [hb] at HB
      obtain ⟨i, x, rfl, hl, hx, hv, x0, x1⟩ := r.at_ ha
      obtain ⟨j, y, rfl, jl, hy, yv, y0, y1⟩ := r.at_ hb
      have ea : G.ask 8 i j = (0, x == y, 0, 0) := by simp [Gr.ask, ha, hb, hv, yv]
      rw [ea]
      dsimp only
      have HV := Lib.hid (And.intro hx hy)
      clear r ha hb ea hx hv hy yv x0 x1 y0 y1
      go_enter Tryz.func27, Tryz.ntmps27
      go_wp2_with fail
      refine HH.out.mono ?_
      rintro e w1 ⟨rfl, rfl⟩
      go_wp2_with fail
      refine HB.out.mono ?_
      rintro e w1 ⟨rfl, rfl⟩
      generalize hW : (w.alloc (stB 8 i j c v)).alloc anB = W at *
      clear hW
      clear HH HB
      have HE := Lib.hid (HX.out.done 0 (x == y) 0 0)
      have z0 := HX.out.an.cell 0
      have z1 := HX.out.an.cell 1
      have z2 := HX.out.an.cell 2
      have z3 := HX.out.an.cell 3
      have zf := HX.out.an.frozen
      have zl := HX.out.an.lt
      have s0 := HX.out.st.cell 0
      have s1 := HX.out.st.cell 1
      have s2 := HX.out.st.cell 2
      have sl := HX.out.st.lt
      obtain ⟨vN, hA, hc, nd, hi, eN, eS⟩ := HX.out.rg
      clear eS
      obtain ⟨c0, c1, c2, cf⟩ := hi.four
      have gl := hi.blk.lt
      obtain ⟨q, off, rfl, lq, hcx, _⟩ := hi.hrow.at_ (by omega)
      have hf := hi.hfew
      have cx := hcx i x HV.out.1
      have cy := hcx j y HV.out.2
      generalize G.hs.length = n at c1 hl jl hf
      clear hi eN hcx HX c0 c2 HV
      go_wp2_with fail
      go_region
      unfold anW at HE
      generalize (((W.setCell ⟨w.heap.size + 1, 0, none⟩ (.int .i64 0)).setCell ⟨w.heap.size + 1, 1, none⟩ (.bool (x == y))).setCell ⟨w.heap.size + 1, 2, none⟩ (.int .i64 0)).setCell ⟨w.heap.size + 1, 3, none⟩ (.int .u64 0) = V at HE ⊢
      clear z0 z1 z2 z3 zf
      have y0 := HE.out.2.cell 0
      have y1 := HE.out.2.cell 1
      have y2 := HE.out.2.cell 2
      have y3 := HE.out.2.cell 3
      have y0 : V.drew.cell? ⟨w.heap.size + 1, 0, none⟩ = _ := y0
      have y1 : V.drew.cell? ⟨w.heap.size + 1, 1, none⟩ = _ := y1
      have y2 : V.drew.cell? ⟨w.heap.size + 1, 2, none⟩ = _ := y2
      have y3 : V.drew.cell? ⟨w.heap.size + 1, 3, none⟩ = _ := y3
      go_wp2
      refine bodyPost_ret (v := anV 0 (x == y) 0 0) (by simp [results, Tryz.results27, go_sem, y0, y1, y2, y3]) rfl ?_
      exact HE.out.1.drew

set_option maxRecDepth 100000 in
set_option maxHeartbeats 8000000 in
theorem rgDo_shape (r : Rg w g S G) : Calls Tryz.prog 27 #[.pointer (some ⟨g, 0, none⟩), sgV 10 a b c v] w fun e w' => DoR w g S G (G.ask 10 a b).1 (G.ask 10 a b).2.1 (G.ask 10 a b).2.2.1 (G.ask 10 a b).2.2.2 e w' := by
  have HX := Lib.hid (ax_make r 10 a b c v)
  have HW := Lib.hid (rgWrong_any _ g S G a HX.out.rg)
  by_cases hw : G.wrong a = 0
  · rw [hw] at HW
    obtain ⟨hb, hn⟩ := wrong_zero hw
    obtain ⟨j, y, rfl, jl, hy, yv, y0, y1⟩ := r.at_ hb
    rw [yv] at hn
    have HV := Lib.hid (And.intro hy (And.intro yv hw))
    clear r hb hy
    go_enter Tryz.func27, Tryz.ntmps27
    go_wp2_with fail
    refine HW.out.mono ?_
    rintro e w1 ⟨rfl, rfl⟩
    generalize hW : (w.alloc (stB 10 j b c v)).alloc anB = W at *
    clear hW
    clear HW
    have z0 := HX.out.an.cell 0
    have z1 := HX.out.an.cell 1
    have z2 := HX.out.an.cell 2
    have z3 := HX.out.an.cell 3
    have zf := HX.out.an.frozen
    have zl := HX.out.an.lt
    have s0 := HX.out.st.cell 0
    have s1 := HX.out.st.cell 1
    have s2 := HX.out.st.cell 2
    have sl := HX.out.st.lt
    obtain ⟨vN, hA, hc, nd, hi, eN, eS⟩ := HX.out.rg
    clear eS
    obtain ⟨c0, c1, c2, cf⟩ := hi.four
    have gl := hi.blk.lt
    obtain ⟨q, off, rfl, lq, hcx, _⟩ := hi.hrow.at_ (by omega)
    have hf := hi.hfew
    obtain ⟨p, z, rfl, hz, ez, _⟩ := node_at eN (x := y) (by omega) (by rw [eN, List.length_map] at y1; exact y1)
    obtain ⟨nb, nc, cur, rfl, hnb, n1, n2, hcn⟩ := hi.row
    have cy := hcx j _ HV.out.1
    have z4 : W.cell? ⟨nb, (p + 1) * 2, none⟩ = some (.slice (some ⟨z.pb, 0, none⟩) z.ps.length z.ps.length) := by rw [hnb.cell]; exact hcn p 0 z hz (by decide)
    have z5 : W.cell? ⟨nb, (p + 1) * 2 + 1, none⟩ = some (.slice (some ⟨z.sb, 0, none⟩) z.ss.length z.ss.length) := by rw [hnb.cell]; exact hcn p 1 z hz (by decide)
    have ln := hnb.lt
    have hp : p + 1 < nd.length + 1 := by have := (List.getElem?_eq_some_iff.1 hz).1; omega
    have few : nd.length + 1 ≤ 1048577 := by have := hi.few; omega
    have zs := hi.size z (List.mem_of_getElem? hz)
    have HN := Lib.hid (And.intro hz ez)
    have HS1 := Lib.hid (hi.sca z (List.mem_of_getElem? hz))
    unfold maxLen at n2
    obtain ⟨N, hN⟩ : ∃ N, nd.length + 1 = N := ⟨_, rfl⟩
    obtain ⟨P, hP⟩ : ∃ P, p + 1 = P := ⟨_, rfl⟩
    rw [hN] at c0 hp few n1
    rw [hP] at cy z4 z5 hp
    generalize G.hs.length = n at c1 jl hf
    clear hcn hnb hcx hi hz ez eN hN y0 y1 hn
    go_wp2_with fail
    go_region
    clear z0 z1 z2 z3 zf zl s0 s1 s2 sl c0 c1 c2 cf gl z4 z5 ln cy hf n1 n2 hp hP few
    have HX := Lib.hid ((HX.out.keep ((Below.refl W.heap.size W).alloc (Nat.le_refl _) (.cells #[.slice (some ⟨z.pb, 0, none⟩) z.ps.length z.ps.length, .slice (some ⟨z.sb, 0, none⟩) z.ss.length z.ss.length] 120))).keep (below_drew _))
    have HB := Lib.hid (Blk.new W #[.slice (some ⟨z.pb, 0, none⟩) z.ps.length z.ps.length, .slice (some ⟨z.sb, 0, none⟩) z.ss.length z.ss.length] 120).drew
    have HS2 := Lib.hid (HS1.out.keep (below_trans ((Below.refl W.heap.size W).alloc (Nat.le_refl _) (.cells #[.slice (some ⟨z.pb, 0, none⟩) z.ps.length z.ps.length, .slice (some ⟨z.sb, 0, none⟩) z.ss.length z.ss.length] 120)) (below_drew _)))
    generalize (W.alloc (.cells #[.slice (some ⟨z.pb, 0, none⟩) z.ps.length z.ps.length, .slice (some ⟨z.sb, 0, none⟩) z.ss.length z.ss.length] 120)).drew = V0 at HX HB HS2 ⊢
    have HS := Lib.hid (fun F u (hu : z.ss[F]? = some u) => (show V0.cell? ⟨z.sb, F, none⟩ = some (.int .u64 u) from by rw [HS2.out.cell]; simp [wordsU, hu]))
    clear HS1 HS2
    generalize W.heap.size = nbk at HB ⊢
    have ea : G.ask 10 j b = (0, false, (z.ps.length : Int), (z.ss.length : Int)) := by
      unfold Gr.ask
      rw [if_neg (by decide), if_pos rfl, if_pos HV.out.2.2, HV.out.2.1, HN.out.2]
    have EA := Lib.hid ea
    have HE := Lib.hid (HX.out.done 0 false z.ps.length z.ss.length)
    have z0 := HX.out.an.cell 0
    have z1 := HX.out.an.cell 1
    have z2 := HX.out.an.cell 2
    have z3 := HX.out.an.cell 3
    have zf := HX.out.an.frozen
    have zl := HX.out.an.lt
    have s0 := HX.out.st.cell 0
    have s1 := HX.out.st.cell 1
    have s2 := HX.out.st.cell 2
    have sl := HX.out.st.lt
    have d0 := HB.out.cell 0
    have d1 := HB.out.cell 1
    have wv : IntKind.u64.wrap (z.ss.length : Int) = (z.ss.length : Int) := by rw [IntKind.wrap_u64]; omega
    clear HX HB HN HV HS ea
    go_wp2
    unfold anW at HE
    generalize (((V0.setCell ⟨w.heap.size + 1, 0, none⟩ (.int .i64 0)).setCell ⟨w.heap.size + 1, 1, none⟩ (.bool false)).setCell ⟨w.heap.size + 1, 2, none⟩ (.int .i64 z.ps.length)).setCell ⟨w.heap.size + 1, 3, none⟩ (.int .u64 z.ss.length) = V at HE ⊢
    clear z0 z1 z2 z3 zf
    have y0 := HE.out.2.cell 0
    have y1 := HE.out.2.cell 1
    have y2 := HE.out.2.cell 2
    have y3 := HE.out.2.cell 3
    refine bodyPost_ret (v := anV 0 false z.ps.length z.ss.length) (by simp [results, Tryz.results27, go_sem, y0, y1, y2, y3]) rfl ?_
    rw [EA.out]
    exact HE.out.1
  · have ea : G.ask 10 a b = (G.wrong a, false, 0, 0) := by simp [Gr.ask, hw]
    rw [ea]
    dsimp only
    clear r ea
    generalize G.wrong a = eb at *
    go_enter Tryz.func27, Tryz.ntmps27
    go_wp2_with fail
    refine HW.out.mono ?_
    rintro e w1 ⟨rfl, rfl⟩
    generalize hW : (w.alloc (stB 10 a b c v)).alloc anB = W at *
    clear hW
    have HE := Lib.hid (HX.out.done eb false 0 0)
    have z0 := HX.out.an.cell 0
    have z1 := HX.out.an.cell 1
    have z2 := HX.out.an.cell 2
    have z3 := HX.out.an.cell 3
    have zf := HX.out.an.frozen
    have zl := HX.out.an.lt
    have s0 := HX.out.st.cell 0
    have s1 := HX.out.st.cell 1
    have s2 := HX.out.st.cell 2
    have sl := HX.out.st.lt
    clear HX HW
    go_wp2
    unfold anW at HE
    generalize (((W.setCell ⟨w.heap.size + 1, 0, none⟩ (.int .i64 eb)).setCell ⟨w.heap.size + 1, 1, none⟩ (.bool false)).setCell ⟨w.heap.size + 1, 2, none⟩ (.int .i64 0)).setCell ⟨w.heap.size + 1, 3, none⟩ (.int .u64 0) = V at HE ⊢
    clear z0 z1 z2 z3 zf
    have y0 := HE.out.2.cell 0
    have y1 := HE.out.2.cell 1
    have y2 := HE.out.2.cell 2
    have y3 := HE.out.2.cell 3
    refine bodyPost_ret (v := anV eb false 0 0) (by simp [results, Tryz.results27, go_sem, y0, y1, y2, y3]) rfl ?_
    exact HE.out.1

set_option maxRecDepth 100000 in
set_option maxHeartbeats 8000000 in
theorem rgDo_read (r : Rg w g S G) : Calls Tryz.prog 27 #[.pointer (some ⟨g, 0, none⟩), sgV 4 a b c v] w fun e w' => DoR w g S G (G.ask 4 a b).1 (G.ask 4 a b).2.1 (G.ask 4 a b).2.2.1 (G.ask 4 a b).2.2.2 e w' := by
  have HX := Lib.hid (ax_make r 4 a b c v)
  have HW := Lib.hid (rgWrong_any _ g S G a HX.out.rg)
  by_cases hw : G.wrong a = 0
  · rw [hw] at HW
    obtain ⟨hb, hn⟩ := wrong_zero hw
    obtain ⟨j, y, rfl, jl, hy, yv, y0, y1⟩ := r.at_ hb
    rw [yv] at hn
    have HV := Lib.hid (And.intro hy (And.intro yv hw))
    clear r hb hy
    go_enter Tryz.func27, Tryz.ntmps27
    go_wp2_with fail
    refine HW.out.mono ?_
    rintro e w1 ⟨rfl, rfl⟩
    generalize hW : (w.alloc (stB 4 j b c v)).alloc anB = W at *
    clear hW
    clear HW
    have z0 := HX.out.an.cell 0
    have z1 := HX.out.an.cell 1
    have z2 := HX.out.an.cell 2
    have z3 := HX.out.an.cell 3
    have zf := HX.out.an.frozen
    have zl := HX.out.an.lt
    have s0 := HX.out.st.cell 0
    have s1 := HX.out.st.cell 1
    have s2 := HX.out.st.cell 2
    have sl := HX.out.st.lt
    obtain ⟨vN, hA, hc, nd, hi, eN, eS⟩ := HX.out.rg
    clear eS
    obtain ⟨c0, c1, c2, cf⟩ := hi.four
    have gl := hi.blk.lt
    obtain ⟨q, off, rfl, lq, hcx, _⟩ := hi.hrow.at_ (by omega)
    have hf := hi.hfew
    obtain ⟨p, z, rfl, hz, ez, _⟩ := node_at eN (x := y) (by omega) (by rw [eN, List.length_map] at y1; exact y1)
    obtain ⟨nb, nc, cur, rfl, hnb, n1, n2, hcn⟩ := hi.row
    have cy := hcx j _ HV.out.1
    have z4 : W.cell? ⟨nb, (p + 1) * 2, none⟩ = some (.slice (some ⟨z.pb, 0, none⟩) z.ps.length z.ps.length) := by rw [hnb.cell]; exact hcn p 0 z hz (by decide)
    have z5 : W.cell? ⟨nb, (p + 1) * 2 + 1, none⟩ = some (.slice (some ⟨z.sb, 0, none⟩) z.ss.length z.ss.length) := by rw [hnb.cell]; exact hcn p 1 z hz (by decide)
    have ln := hnb.lt
    have hp : p + 1 < nd.length + 1 := by have := (List.getElem?_eq_some_iff.1 hz).1; omega
    have few : nd.length + 1 ≤ 1048577 := by have := hi.few; omega
    have zs := hi.size z (List.mem_of_getElem? hz)
    have HN := Lib.hid (And.intro hz ez)
    have HS1 := Lib.hid (hi.sca z (List.mem_of_getElem? hz))
    unfold maxLen at n2
    obtain ⟨N, hN⟩ : ∃ N, nd.length + 1 = N := ⟨_, rfl⟩
    obtain ⟨P, hP⟩ : ∃ P, p + 1 = P := ⟨_, rfl⟩
    rw [hN] at c0 hp few n1
    rw [hP] at cy z4 z5 hp
    generalize G.hs.length = n at c1 jl hf
    clear hcn hnb hcx hi hz ez eN hN y0 y1 hn
    go_wp2_with fail
    go_region
    clear z0 z1 z2 z3 zf zl s0 s1 s2 sl c0 c1 c2 cf gl z4 z5 ln cy hf n1 n2 hp hP few
    have HX := Lib.hid ((HX.out.keep ((Below.refl W.heap.size W).alloc (Nat.le_refl _) (.cells #[.slice (some ⟨z.pb, 0, none⟩) z.ps.length z.ps.length, .slice (some ⟨z.sb, 0, none⟩) z.ss.length z.ss.length] 120))).keep (below_drew _))
    have HB := Lib.hid (Blk.new W #[.slice (some ⟨z.pb, 0, none⟩) z.ps.length z.ps.length, .slice (some ⟨z.sb, 0, none⟩) z.ss.length z.ss.length] 120).drew
    have HS2 := Lib.hid (HS1.out.keep (below_trans ((Below.refl W.heap.size W).alloc (Nat.le_refl _) (.cells #[.slice (some ⟨z.pb, 0, none⟩) z.ps.length z.ps.length, .slice (some ⟨z.sb, 0, none⟩) z.ss.length z.ss.length] 120)) (below_drew _)))
    generalize (W.alloc (.cells #[.slice (some ⟨z.pb, 0, none⟩) z.ps.length z.ps.length, .slice (some ⟨z.sb, 0, none⟩) z.ss.length z.ss.length] 120)).drew = V0 at HX HB HS2 ⊢
    have HS := Lib.hid (fun F u (hu : z.ss[F]? = some u) => (show V0.cell? ⟨z.sb, F, none⟩ = some (.int .u64 u) from by rw [HS2.out.cell]; simp [wordsU, hu]))
    clear HS1 HS2
    generalize W.heap.size = nbk at HB ⊢
    obtain ⟨mm, hmm⟩ : ∃ mm, z.ss.length = mm := ⟨_, rfl⟩
    have d1 : V0.cell? ⟨nbk, 1, none⟩ = some (.slice (some ⟨z.sb, 0, none⟩) mm mm) := by rw [HB.out.cell 1, ← hmm]; rfl
    have m64 : mm ≤ 64 := by have := zs; omega
    clear HB zs
    by_cases hfi : 0 ≤ b ∧ b < mm
    · obtain ⟨F, rfl⟩ : ∃ F : Nat, b = F := ⟨b.toNat, by omega⟩
      have fl : F < mm := by omega
      obtain ⟨u, hu⟩ : ∃ u, z.ss[F]? = some u := ⟨_, List.getElem?_eq_getElem (by omega)⟩
      have pc : V0.cell? ⟨z.sb, F, none⟩ = some (.int .u64 u) := HS.out F u hu
      have EA := Lib.hid (show G.ask 4 j F = (0, false, 0, u) from by
        unfold Gr.ask
        rw [if_pos rfl, if_pos HV.out.2.2, HV.out.2.1, HN.out.2, if_pos ⟨by omega, by simp only [hmm]; omega⟩, Int.toNat_natCast, List.getD_eq_getElem?_getD, hu]; rfl)
      have HE := Lib.hid (HX.out.done 0 false 0 u)
      have z0 := HX.out.an.cell 0
      have z1 := HX.out.an.cell 1
      have z2 := HX.out.an.cell 2
      have z3 := HX.out.an.cell 3
      have zf := HX.out.an.frozen
      have zl := HX.out.an.lt
      have s0 := HX.out.st.cell 0
      have s1 := HX.out.st.cell 1
      have s2 := HX.out.st.cell 2
      have sl := HX.out.st.lt
      clear HX HN HV HS hu hmm hfi
      go_wp2
      unfold anW at HE
      generalize (((V0.setCell ⟨w.heap.size + 1, 0, none⟩ (.int .i64 0)).setCell ⟨w.heap.size + 1, 1, none⟩ (.bool false)).setCell ⟨w.heap.size + 1, 2, none⟩ (.int .i64 0)).setCell ⟨w.heap.size + 1, 3, none⟩ (.int .u64 u) = V at HE ⊢
      clear z0 z1 z2 z3 zf
      have y0 := HE.out.2.cell 0
      have y1 := HE.out.2.cell 1
      have y2 := HE.out.2.cell 2
      have y3 := HE.out.2.cell 3
      refine bodyPost_ret (v := anV 0 false 0 u) (by simp [results, Tryz.results27, go_sem, y0, y1, y2, y3]) rfl ?_
      rw [EA.out]
      exact HE.out.1
    · have EA := Lib.hid (show G.ask 4 j b = (5, false, 0, 0) from by
        unfold Gr.ask
        rw [if_pos rfl, if_pos HV.out.2.2, HV.out.2.1, HN.out.2, if_neg (by simp only [hmm]; exact hfi)])
      have HE := Lib.hid (HX.out.done 5 false 0 0)
      have z0 := HX.out.an.cell 0
      have z1 := HX.out.an.cell 1
      have z2 := HX.out.an.cell 2
      have z3 := HX.out.an.cell 3
      have zf := HX.out.an.frozen
      have zl := HX.out.an.lt
      have s0 := HX.out.st.cell 0
      have s1 := HX.out.st.cell 1
      have s2 := HX.out.st.cell 2
      have sl := HX.out.st.lt
      clear HX HN HV HS hmm
      by_cases hz0 : b < 0
      · go_wp2
        unfold anW at HE
        generalize (((V0.setCell ⟨w.heap.size + 1, 0, none⟩ (.int .i64 5)).setCell ⟨w.heap.size + 1, 1, none⟩ (.bool false)).setCell ⟨w.heap.size + 1, 2, none⟩ (.int .i64 0)).setCell ⟨w.heap.size + 1, 3, none⟩ (.int .u64 0) = V at HE ⊢
        clear z0 z1 z2 z3 zf
        have y0 := HE.out.2.cell 0
        have y1 := HE.out.2.cell 1
        have y2 := HE.out.2.cell 2
        have y3 := HE.out.2.cell 3
        refine bodyPost_ret (v := anV 5 false 0 0) (by simp [results, Tryz.results27, go_sem, y0, y1, y2, y3]) rfl ?_
        rw [EA.out]
        exact HE.out.1
      · have hz1 : (mm : Int) ≤ b := by omega
        go_wp2
        unfold anW at HE
        generalize (((V0.setCell ⟨w.heap.size + 1, 0, none⟩ (.int .i64 5)).setCell ⟨w.heap.size + 1, 1, none⟩ (.bool false)).setCell ⟨w.heap.size + 1, 2, none⟩ (.int .i64 0)).setCell ⟨w.heap.size + 1, 3, none⟩ (.int .u64 0) = V at HE ⊢
        clear z0 z1 z2 z3 zf
        have y0 := HE.out.2.cell 0
        have y1 := HE.out.2.cell 1
        have y2 := HE.out.2.cell 2
        have y3 := HE.out.2.cell 3
        refine bodyPost_ret (v := anV 5 false 0 0) (by simp [results, Tryz.results27, go_sem, y0, y1, y2, y3]) rfl ?_
        rw [EA.out]
        exact HE.out.1
  · have ea : G.ask 4 a b = (G.wrong a, false, 0, 0) := by simp [Gr.ask, hw]
    rw [ea]
    dsimp only
    clear r ea
    generalize G.wrong a = eb at *
    go_enter Tryz.func27, Tryz.ntmps27
    go_wp2_with fail
    refine HW.out.mono ?_
    rintro e w1 ⟨rfl, rfl⟩
    generalize hW : (w.alloc (stB 4 a b c v)).alloc anB = W at *
    clear hW
    have HE := Lib.hid (HX.out.done eb false 0 0)
    have z0 := HX.out.an.cell 0
    have z1 := HX.out.an.cell 1
    have z2 := HX.out.an.cell 2
    have z3 := HX.out.an.cell 3
    have zf := HX.out.an.frozen
    have zl := HX.out.an.lt
    have s0 := HX.out.st.cell 0
    have s1 := HX.out.st.cell 1
    have s2 := HX.out.st.cell 2
    have sl := HX.out.st.lt
    clear HX HW
    go_wp2
    unfold anW at HE
    generalize (((W.setCell ⟨w.heap.size + 1, 0, none⟩ (.int .i64 eb)).setCell ⟨w.heap.size + 1, 1, none⟩ (.bool false)).setCell ⟨w.heap.size + 1, 2, none⟩ (.int .i64 0)).setCell ⟨w.heap.size + 1, 3, none⟩ (.int .u64 0) = V at HE ⊢
    clear z0 z1 z2 z3 zf
    have y0 := HE.out.2.cell 0
    have y1 := HE.out.2.cell 1
    have y2 := HE.out.2.cell 2
    have y3 := HE.out.2.cell 3
    refine bodyPost_ret (v := anV eb false 0 0) (by simp [results, Tryz.results27, go_sem, y0, y1, y2, y3]) rfl ?_
    exact HE.out.1
end
end Go.Proofs.YthmhehehomieiaaGreat

/- Contracts of the document's graph: Do, idle work, forced cycles, and what is no entry. -/
namespace Go.Proofs.YthmhehehomieiaaGreat
open Go.RowKit

theorem doR_new {w : World} {g : Nat} {S : Nat → Prop} {G : Gr} (r : Rg w g S G) (k a b c v e : Int) : DoR w g S G e false 0 0 (.returned (anV e false 0 0)) ((w.alloc (stB k a b c v)).alloc (.cells #[.int .i64 e, .bool false, .int .i64 0, .int .u64 0] 55)) := by
  have al : Below w.heap.size w ((w.alloc (stB k a b c v)).alloc (.cells #[.int .i64 e, .bool false, .int .i64 0, .int .u64 0] 55)) := ((Below.refl _ _).alloc (Nat.le_refl _) _).alloc (by simp) _
  exact ⟨rfl, S, r.keep al, Mv.of_below al⟩

set_option maxRecDepth 100000 in
set_option maxHeartbeats 8000000 in
theorem rgDo_idle (w : World) (g : Nat) (S : Nat → Prop) (G : Gr) (k a b c v : Int) (hk : k = 11 ∨ k = 12) (r : Rg w g S G) :
    Calls Tryz.prog 27 #[.pointer (some ⟨g, 0, none⟩), sgV k a b c v] w fun e w' => DoR w g S G (if a = 0 ∨ a = 1 then 0 else 1) false 0 0 e w' := by
  have H0 := Lib.hid (doR_new r k a b c v 0)
  have H1 := Lib.hid (doR_new r k a b c v 1)
  clear r
  rcases (show a = 0 ∨ a = 1 ∨ (¬ a = 0 ∧ ¬ a = 1) from by omega) with rfl | rfl | ⟨h0, h1⟩
  · rw [if_pos (.inl rfl)]
    rcases hk with rfl | rfl
    all_goals
      go_enter Tryz.func27, Tryz.ntmps27
      go_wp2
      refine bodyPost_ret (v := anV 0 false 0 0) (by simp [results, Tryz.results27, go_sem]) rfl ?_
      exact H0.out
  · rw [if_pos (.inr rfl)]
    rcases hk with rfl | rfl
    all_goals
      go_enter Tryz.func27, Tryz.ntmps27
      go_wp2
      refine bodyPost_ret (v := anV 0 false 0 0) (by simp [results, Tryz.results27, go_sem]) rfl ?_
      exact H0.out
  · rw [if_neg (by omega)]
    have q0 : (a == 0) = false := by simp [h0]
    have q1 : (a == 1) = false := by simp [h1]
    rcases hk with rfl | rfl
    all_goals
      go_enter Tryz.func27, Tryz.ntmps27
      go_wp2
      refine bodyPost_ret (v := anV 1 false 0 0) (by simp [results, Tryz.results27, go_sem]) rfl ?_
      exact H1.out

set_option maxRecDepth 100000 in
set_option maxHeartbeats 8000000 in
theorem rgDo_other (w : World) (g : Nat) (S : Nat → Prop) (G : Gr) (k a b c v : Int) (hk : k < 1 ∨ 12 < k) (r : Rg w g S G) :
    Calls Tryz.prog 27 #[.pointer (some ⟨g, 0, none⟩), sgV k a b c v] w fun e w' => DoR w g S G 1 false 0 0 e w' := by
  have H1 := Lib.hid (doR_new r k a b c v 1)
  have k1 : ¬ k = 1 := by omega
  have k2 : ¬ k = 2 := by omega
  have k3 : ¬ k = 3 := by omega
  have k4 : ¬ k = 4 := by omega
  have k5 : ¬ k = 5 := by omega
  have k6 : ¬ k = 6 := by omega
  have k7 : ¬ k = 7 := by omega
  have k8 : ¬ k = 8 := by omega
  have k9 : ¬ k = 9 := by omega
  have k10 : ¬ k = 10 := by omega
  have k11 : ¬ k = 11 := by omega
  have k12 : ¬ k = 12 := by omega
  clear r hk
  go_enter Tryz.func27, Tryz.ntmps27
  go_wp2
  refine bodyPost_ret (v := anV 1 false 0 0) (by simp [results, Tryz.results27, go_sem]) rfl ?_
  exact H1.out
end Go.Proofs.YthmhehehomieiaaGreat

/- The document's graph: all entries that change something, as one contract. -/
namespace Go.Proofs.YthmhehehomieiaaGreat
open Go.RowKit

theorem rgDo_turns (w : World) (g : Nat) (S : Nat → Prop) (G : Gr) (k a b c v : Int) (hk : turnsK k) (hb0 : -9223372036854775808 ≤ b) (hb1 : b ≤ 9223372036854775807) (few : G.ns.length < 1048576) (r : Rg w g S G) :
    Calls Tryz.prog 27 #[.pointer (some ⟨g, 0, none⟩), sgV k a b c v] w fun e w' => DoR w g S (G.change k a b c v).2 (G.change k a b c v).1 false 0 0 e w' := by
  refine rgDo_change w g S G k a b c v hk r fun w1 r1 => ?_
  rcases hk with rfl | rfl | rfl | rfl | rfl | rfl
  · cases hh : G.has a
    · exact rgMake_no w1 g S G a b c v r1 (.inl hh) hb0 hb1
    · by_cases bad : b < 0 ∨ c < 0 ∨ G.lg < b ∨ G.lg - b < c
      · exact rgMake_no w1 g S G a b c v r1 (.inr bad) hb0 hb1
      · exact rgMake_yes w1 g S G a b c v r1 hh (by omega) (by omega) (by omega) (by omega) few
  · exact rgGet w1 g S G a b c v r1
  · exact rgSet w1 g S G a b c v r1
  · exact rgWrite w1 g S G a b c v r1
  · exact rgClear w1 g S G a b c v r1
  · exact rgCopy w1 g S G a b c v r1
end Go.Proofs.YthmhehehomieiaaGreat

/- A core and, beside it, the same graph as the document has it. -/
namespace Go.Proofs.YthmhehehomieiaaGreat
open Go.RowKit

/-- A core that holds the graph G, made since w0, and the document's graph H at block g; the caller's blocks are Z. -/
def Kr (w0 w : World) (Z : Nat → Prop) (b : Nat) (c : Cfg) (g : Nat) (G H : Gr) : Prop :=
  ∃ S, Kg w0 w (fun k => S k ∨ Z k) b c G ∧ Rg w g S H ∧ ∀ k, Z k → ¬ S k

section
variable {w0 w w' : World} {Z Z' : Nat → Prop} {b g : Nat} {c : Cfg} {G H : Gr}

theorem Kr.grow (h : Kr w0 w Z b c g G H) (f : Below w.heap.size w w') (hz : ∀ k, Z' k → Z k ∨ (w.heap.size ≤ k ∧ k < w'.heap.size)) : Kr w0 w' Z' b c g G H := by
  obtain ⟨S, k, r, d⟩ := h
  refine ⟨S, k.grow f fun j hj => ?_, r.keep f, fun j hj hs => ?_⟩
  · rcases hj with e | e
    · exact .inl (.inl e)
    · exact (hz j e).imp .inr id
  · rcases hz j hj with e | e
    · exact d j e hs
    · have := r.lt hs; omega
theorem Kr.keep (h : Kr w0 w Z b c g G H) (f : Below w.heap.size w w') : Kr w0 w' Z b c g G H := h.grow f fun _ => .inl
theorem Kr.bel (h : Kr w0 w Z b c g G H) : Below w0.heap.size w0 w := h.choose_spec.1.bel

theorem Kr.of_new {S : Nat → Prop} (h : Kg w0 w Z b c G) (f : Below w.heap.size w w') (r : Rg w' g S H) (hs : ∀ k, S k → w.heap.size ≤ k) : Kr w0 w' Z b c g G H := by
  refine ⟨S, h.grow f fun j hj => ?_, r, fun j hj e => ?_⟩
  · rcases hj with e | e
    · exact .inr ⟨hs j e, r.lt e⟩
    · exact .inl e
  · have := (h.low j hj).2
    have := hs j e
    omega

/-- An entry by the core. -/
theorem kr_do (h : Kr w0 w Z b c g G H) (k a p q v : Int) (q1 : q ≤ 9223372036854775807) :
    Calls Tryz.prog 26 #[ptr b, sgV k a p q v] w fun e w' => e = .returned (anOf (doA c.nu G k a p q v)) ∧ Kr w0 w' Z b c g (doG c.nu G k a p q v) H ∧ Kp Z w w' := by
  obtain ⟨S, kg, r, d⟩ := h
  exact (kg_do kg k a p q v q1).mono fun e w' ⟨he, kg', kp⟩ => ⟨he, ⟨S, kg', r.frm kp fun j hj e => e (.inl hj), d⟩, kp.mono fun j _ hj e => hj (.inr e)⟩

/-- An entry by the document's graph: as the core's, where there is room. -/
theorem rg_do (w : World) (g : Nat) (S : Nat → Prop) (H : Gr) (nu k a p q v : Int) (hk : 1 ≤ k ∧ k ≤ 10) (hf : ¬ full nu H k a p q) (p0 : -9223372036854775808 ≤ p) (p1 : p ≤ 9223372036854775807) (few : H.ns.length < 1048576) (r : Rg w g S H) :
    Calls Tryz.prog 27 #[.pointer (some ⟨g, 0, none⟩), sgV k a p q v] w fun e w' => e = .returned (anOf (doA nu H k a p q v)) ∧ ∃ S', Rg w' g S' (doG nu H k a p q v) ∧ Mv S S' w w' := by
  by_cases ht : k = 1 ∨ k = 2 ∨ k = 3 ∨ k = 5 ∨ k = 6 ∨ k = 7
  · have hA : doA nu H k a p q v = ((H.change k a p q v).1, false, 0, 0) := by unfold doA; rw [if_pos ht]; unfold stE; rw [if_neg hf]
    have hG : doG nu H k a p q v = (H.change k a p q v).2 := by unfold doG; rw [if_pos ht]; unfold stG; rw [if_neg hf]
    rw [hA, hG]
    exact rgDo_turns w g S H k a p q v ht p0 p1 few r
  · have hq : k = 4 ∨ k = 8 ∨ k = 9 ∨ k = 10 := by omega
    have hA : doA nu H k a p q v = H.ask k a p := by unfold doA; rw [if_neg ht, if_pos hq]
    have hG : doG nu H k a p q v = H := by unfold doG; rw [if_neg ht]
    rw [hA, hG]
    rcases hq with rfl | rfl | rfl | rfl
    · exact rgDo_read w g S H a p q v r
    · exact rgDo_same w g S H a p q v r
    · exact rgDo_nil w g S H a p q v r
    · exact rgDo_shape w g S H a p q v r

theorem kr_ref (h : Kr w0 w Z b c g G H) (k a p q v : Int) (hk : 1 ≤ k ∧ k ≤ 10) (hf : ¬ full c.nu H k a p q) (p0 : -9223372036854775808 ≤ p) (p1 : p ≤ 9223372036854775807) (few : H.ns.length < 1048576) :
    Calls Tryz.prog 27 #[.pointer (some ⟨g, 0, none⟩), sgV k a p q v] w fun e w' => e = .returned (anOf (doA c.nu H k a p q v)) ∧ Kr w0 w' Z b c g G (doG c.nu H k a p q v) ∧ Kp Z w w' := by
  obtain ⟨S, kg, r, d⟩ := h
  refine (rg_do w g S H c.nu k a p q v hk hf p0 p1 few r).mono fun e w' ⟨he, S', r', mv⟩ => ⟨he, ⟨S', kg.write mv.frm (fun j _ e => .inl e) fun j hj => ?_, r', fun j hz hs => ?_⟩, mv.frm.mono fun j _ hj hz => d j hz hj⟩
  · rcases hj with e | e
    · exact (mv.at_ j e).imp .inl fun q => ⟨q, r'.lt e⟩
    · exact .inl (.inr e)
  · rcases mv.at_ j hs with e | e
    · exact d j hz e
    · have := (kg.low j (.inr hz)).2; omega

/-- What the core tells of itself. -/
theorem kr_stats (h : Kr w0 w Z b c g G H) :
    Calls Tryz.prog 20 #[ptr b] w fun e w' => e = .returned (stV8 G.ns.length (tot G.ns) 0 0 0 (tot G.ns) 0 (c.ps * c.pz)) ∧ Below w.heap.size w w' :=
  let ⟨_, kg, _, _⟩ := h; kg_stats kg
end
end Go.Proofs.YthmhehehomieiaaGreat

/- How many nodes and words a graph has behind an entry; a new one. -/
namespace Go.Proofs.YthmhehehomieiaaGreat
open Go.RowKit

theorem new_none {c : Cfg} (hm : c.May) : Gr.new c.ha c.lg = Gr.none_ c := by
  have h0 := hm.ha0
  have h1 := hm.ha1
  unfold Gr.new Gr.none_ zeros nhI
  rw [cut_in hm.lg0 hm.lg1, show min (max c.ha 0) 64 = c.ha by omega]

theorem setNode_sz (G : Gr) (i : Int) (x : Node2) (e : sz x = sz (G.node i)) : (G.setNode i x).ns.map sz = G.ns.map sz := by
  show (G.ns.set (i.toNat - 1) x).map sz = _
  by_cases h : i.toNat - 1 < G.ns.length
  · refine set_sz (n := G.node i) ?_ e
    unfold Gr.node
    rw [List.getD_eq_getElem?_getD, List.getElem?_eq_getElem h]
    rfl
  · rw [List.set_eq_of_length_le (by omega)]

/-- May an entry make an object, as far as its numbers go? -/
def mayI (G : Gr) (a p q : Int) : Prop := G.has a = true ∧ 0 ≤ p ∧ 0 ≤ q ∧ p ≤ G.lg ∧ q ≤ G.lg - p

theorem change_lg (G : Gr) (k a b c v : Int) : (G.change k a b c v).2.lg = G.lg := by
  unfold Gr.change Gr.hold Gr.setNode
  repeat' split
  all_goals rfl
theorem doG_lg (nu : Int) (G : Gr) (k a p q v : Int) : (doG nu G k a p q v).lg = G.lg := by
  unfold doG stG
  split
  · split
    · rfl
    · exact change_lg _ _ _ _ _ _
  · rfl

theorem change_hs (G : Gr) (k a b c v : Int) : (G.change k a b c v).2.hs.length = G.hs.length := by
  unfold Gr.change Gr.hold Gr.setNode
  repeat' split
  all_goals simp
theorem doG_hs (nu : Int) (G : Gr) (k a p q v : Int) : (doG nu G k a p q v).hs.length = G.hs.length := by
  unfold doG stG
  split
  · split
    · rfl
    · exact change_hs _ _ _ _ _ _
  · rfl

theorem change_sz (G : Gr) (k a b c v : Int) (h : k ≠ 1 ∨ ¬ mayI G a b c) : (G.change k a b c v).2.ns.map sz = G.ns.map sz := by
  unfold Gr.change
  split
  · rename_i hk
    split
    · rename_i ha
      rw [if_pos (by
        by_cases hb : b < 0 ∨ c < 0 ∨ G.lg < b ∨ G.lg - b < c
        · exact hb
        · exact absurd ⟨ha, by omega, by omega, by omega, by omega⟩ (h.resolve_left fun e => e hk))]
    · rfl
  · unfold Gr.hold
    repeat' split
    all_goals first
      | rfl
      | (refine setNode_sz _ _ _ ?_; simp [sz])
theorem doG_sz (nu : Int) (G : Gr) (k a p q v : Int) (h : k ≠ 1 ∨ ¬ mayI G a p q) : (doG nu G k a p q v).ns.map sz = G.ns.map sz := by
  unfold doG stG
  split
  · split
    · rfl
    · exact change_sz _ _ _ _ _ _ h
  · rfl
theorem doG_same (nu : Int) (G : Gr) (k a p q v : Int) (h : k ≠ 1 ∨ ¬ mayI G a p q) : (doG nu G k a p q v).ns.length = G.ns.length ∧ tot (doG nu G k a p q v).ns = tot G.ns :=
  ⟨by have := congrArg List.length (doG_sz nu G k a p q v h); simpa using this, tot_same (doG_sz nu G k a p q v h)⟩
theorem full_no {nu : Int} {G : Gr} {k a p q : Int} (h : k ≠ 1 ∨ ¬ mayI G a p q) : ¬ full nu G k a p q := by
  rintro ⟨e, h1, h2, h3, h4, _⟩
  exact h.elim (fun n => n e) fun n => n ⟨h1, h2, h3, by omega, by omega⟩

theorem doG_full {nu : Int} {G : Gr} {a p q v : Int} (h : mayI G a p q) (hf : nu < tot G.ns + p + q + 2) : doA nu G 1 a p q v = (7, false, 0, 0) := by
  unfold doA stE
  rw [if_pos (.inl rfl), if_pos ⟨rfl, h.1, h.2.1, h.2.2.1, by have := h.2.2.2; omega, by omega⟩]

theorem full_room {nu : Int} {G : Gr} {a p q : Int} (hf : ¬ nu < tot G.ns + p + q + 2) : ¬ full nu G 1 a p q := by
  rintro ⟨_, _, _, _, _, h5⟩
  omega
theorem doG_made {nu : Int} {G : Gr} {a p q v : Int} (h : mayI G a p q) (hf : ¬ nu < tot G.ns + p + q + 2) :
    (doG nu G 1 a p q v).ns.length = G.ns.length + 1 ∧ (tot (doG nu G 1 a p q v).ns : Int) = tot G.ns + p + q + 2 := by
  unfold doG stG
  rw [if_pos (.inl rfl), if_neg (full_room hf)]
  unfold Gr.change
  rw [if_pos rfl, if_pos h.1, if_neg (by have := h.2; omega)]
  refine ⟨by simp, ?_⟩
  show ((tot (G.ns ++ [(List.replicate p.toNat 0, List.replicate q.toNat 0)]) : Nat) : Int) = _
  rw [tot_snoc]
  have := h.2.1
  have := h.2.2.1
  simp only [sz, List.length_replicate]
  omega
end Go.Proofs.YthmhehehomieiaaGreat

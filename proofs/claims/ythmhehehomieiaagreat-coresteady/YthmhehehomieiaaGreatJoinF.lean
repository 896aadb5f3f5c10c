/- Texts of the layers below, joined: CoS RgA CoD CoQ RgN CoT CoV CoW RgB RgC RgD CoY CoZ. -/
import Derived.Test.YthmhehehomieiaaGreatJoinE
import Derived.Laws.AppendOwn
import Derived.Maps.AppendAt
import Derived.Deep.AppendLies
import Derived.Deep.QuietTactic
import Derived.BigQuiet
import Derived.BigRegion
import Derived.IntWalk
import Derived.Deep.DeepCutAuto
import Derived.Deep.CutBlock
import Derived.StillTailTactics

/- The contracts of Stats. -/
namespace Go.Proofs.YthmhehehomieiaaGreat
open Go.RowKit

abbrev stV8 (a c d e f y o r : Int) : Value := .agg #[.int .i64 a, .int .i64 c, .int .i64 d, .int .i64 e, .int .i64 f, .int .i64 y, .int .i64 o, .int .i64 r]
abbrev stL8 (a c d e f y o r : Int) : Array Value := #[.int .i64 a, .int .i64 c, .int .i64 d, .int .i64 e, .int .i64 f, .int .i64 y, .int .i64 o, .int .i64 r]
abbrev stO8 (a c d e f y o r : Int) : Obj := .cells (stL8 a c d e f y o r) 31

set_option maxHeartbeats 1000000 in
theorem stats_none (w : World) : Calls Tryz.prog 20 #[.pointer Option.none] w fun e w' => e = .returned (stV8 0 0 0 0 0 0 0 0) ∧ Below w.heap.size w w' := by
  go_enter Tryz.func20, Tryz.ntmps20
  go_wp2
  exact bodyPost_ret (v := stV8 0 0 0 0 0 0 0 0) (by simp [results, Tryz.results20, go_sem]) rfl ⟨rfl, (Below.refl _ _).alloc (Nat.le_refl _) _⟩

theorem Blk.eight {w : World} {b : Nat} {t : TypeId} {v0 v1 v2 v3 v4 v5 v6 v7 : Value} (h : Blk w b #[v0, v1, v2, v3, v4, v5, v6, v7] t) :
    w.cell? ⟨b, 0, none⟩ = some v0 ∧ w.cell? ⟨b, 1, none⟩ = some v1 ∧ w.cell? ⟨b, 2, none⟩ = some v2 ∧ w.cell? ⟨b, 3, none⟩ = some v3 ∧ w.cell? ⟨b, 4, none⟩ = some v4 ∧ w.cell? ⟨b, 5, none⟩ = some v5 ∧ w.cell? ⟨b, 6, none⟩ = some v6 ∧ w.cell? ⟨b, 7, none⟩ = some v7 ∧
    (∀ i, w.frozen? ⟨b, i, none⟩ = false) := ⟨h.cell 0, h.cell 1, h.cell 2, h.cell 3, h.cell 4, h.cell 5, h.cell 6, h.cell 7, h.frozen⟩

theorem Blk.set8 {w1 : World} {k : Nat} {t : TypeId} {u0 u1 u2 u3 u4 u5 u6 u7 : Value} (h : Blk w1 k #[u0, u1, u2, u3, u4, u5, u6, u7] t) (v0 v1 v2 v3 v4 v5 v6 v7 : Value) :
    Blk ((((((((w1.setCell ⟨k, 0, none⟩ v0).setCell ⟨k, 1, none⟩ v1).setCell ⟨k, 2, none⟩ v2).setCell ⟨k, 3, none⟩ v3).setCell ⟨k, 4, none⟩ v4).setCell ⟨k, 5, none⟩ v5).setCell ⟨k, 6, none⟩ v6).setCell ⟨k, 7, none⟩ v7) k #[v0, v1, v2, v3, v4, v5, v6, v7] t := by
  have e := (((((((h.set_ 0 v0).set_ 1 v1).set_ 2 v2).set_ 3 v3).set_ 4 v4).set_ 5 v5).set_ 6 v6).set_ 7 v7
  simpa only [List.setIfInBounds_toArray, List.set_cons_zero, List.set_cons_succ] using e

theorem Frm.set8 {T : Nat → Prop} {w w' : World} (f : Frm T w w') (r : Nat) (hr : T r) (v0 v1 v2 v3 v4 v5 v6 v7 : Value) :
    Frm T w ((((((((w'.setCell ⟨r, 0, none⟩ v0).setCell ⟨r, 1, none⟩ v1).setCell ⟨r, 2, none⟩ v2).setCell ⟨r, 3, none⟩ v3).setCell ⟨r, 4, none⟩ v4).setCell ⟨r, 5, none⟩ v5).setCell ⟨r, 6, none⟩ v6).setCell ⟨r, 7, none⟩ v7) :=
  (f.set7 r hr v0 v1 v2 v3 v4 v5 v6).setCell (p := ⟨r, 7, none⟩) (fun _ => hr) _

section
variable {w : World} {b : Nat} {S : Nat → Prop} {s : Co}

/-- How many words of the pages are used. -/
def Co.used (s : Co) : Int := usedI (cellsP (1 + 2 * s.cf.nu) s.cf.pz s.pgs)

theorem Cr.oldUsed (hC : Cr w b S s) : ∃ o : Nat, w.cell? ⟨b, 15, Option.none⟩ = some (.pointer (some ⟨o, 0, Option.none⟩)) ∧ Calls Tryz.prog 69 #[.pointer (some ⟨o, 0, Option.none⟩)] w fun e w' => e = .returned (.int .i64 s.used) ∧ Below w.heap.size w w' := by
  obtain ⟨P, own, h0, rfl, rfl⟩ := hC
  obtain ⟨pb, ub, hp, _⟩ := h0.prt 3
  exact ⟨P.o, h0.cell 15, mUsed_any _ _ _ _ _ _ _ w hp⟩

def StV (y b k : Nat) (u v : Int) : Nat → Value → Prop
  | 0 => fun x => x = ptr b
  | 1 => fun x => x = ptr b
  | 2 => fun x => x = .pointer (some ⟨b, 14, Option.none⟩)
  | 3 => fun x => x = bpP y
  | 4 => fun x => x = .int .i64 u
  | 5 => fun x => x = ptr b
  | 6 => fun x => x = ptr b
  | 7 => fun x => x = .pointer (some ⟨b, 14, Option.none⟩)
  | 8 => fun x => x = bpP y
  | 9 => fun x => x = .int .i64 v
  | 10 => fun x => x = .int .i64 (u + v)
  | 11 => fun x => x = .pointer (some ⟨k, 5, Option.none⟩)
  | _ => fun _ => True
theorem stV_some (y b k : Nat) (u v : Int) : ∀ i, ∃ x, StV y b k u v i x
  | 0 => ⟨_, rfl⟩
  | 1 => ⟨_, rfl⟩
  | 2 => ⟨_, rfl⟩
  | 3 => ⟨_, rfl⟩
  | 4 => ⟨_, rfl⟩
  | 5 => ⟨_, rfl⟩
  | 6 => ⟨_, rfl⟩
  | 7 => ⟨_, rfl⟩
  | 8 => ⟨_, rfl⟩
  | 9 => ⟨_, rfl⟩
  | 10 => ⟨_, rfl⟩
  | 11 => ⟨_, rfl⟩
  | _ + 12 => ⟨undef, trivial⟩

attribute [local go_sem] madeUpon makes

set_option maxHeartbeats 8000000 in
set_option maxRecDepth 100000 in
theorem stats_any (hC : Cr w b S s) (u0 : 0 ≤ s.used) (u1 : s.used ≤ 16384) :
    Calls Tryz.prog 20 #[ptr b] w fun e w' => e = .returned (stV8 s.d.al s.d.wd s.d.pr s.d.mi s.d.ma (s.yu + s.yv) s.used (s.cf.ps * s.cf.pz - s.used)) ∧ Below w.heap.size w w' := by
  have m0 := hC.may.words
  have n1 := hC.may.nu1
  obtain ⟨y, _, hy⟩ := hC.half
  have hw1 : IntKind.i64.wrap (s.yu + s.yv) = s.yu + s.yv := wrap_in _ (by have := hy.u0; have := hy.v0; omega) (by have := hy.u1; have := hy.v1; have := hy.w1; omega)
  have hw2 : IntKind.i64.wrap (s.cf.ps * s.cf.pz) = s.cf.ps * s.cf.pz := wrap_in _ (by omega) (by omega)
  have hw3 : IntKind.i64.wrap (s.cf.ps * s.cf.pz - s.used) = s.cf.ps * s.cf.pz - s.used := wrap_in _ (by omega) (by omega)
  have W1 := Lib.hid hw1
  have W2 := Lib.hid hw2
  have W3 := Lib.hid hw3
  have HC := Lib.hid hC
  have HC0 := Lib.hid hC
  have k := hC.box (stO8 0 0 0 0 0 0 0 0)
  obtain ⟨P, own, h0, _, hc, _⟩ := k.cell
  have c26 := hc 26
  have c27 := hc 27
  have c28 := hc 28
  have c29 := hc 29
  have c30 := hc 30
  have c31 := hc 31
  have c32 := hc 32
  have c33 := hc 33
  simp only [coL, List.getElem?_toArray, List.getElem?_cons_succ, List.getElem?_cons_zero] at c26 c27 c28 c29 c30 c31 c32 c33
  have SL := Lib.hid (fun k hk => hC.lt (k := k) hk)
  clear hC k h0 hc hy m0 n1 u0 u1 hw1 hw2 hw3
  go_enter Tryz.func20, Tryz.ntmps20
  go_wp2_with fail
  clear c26 c27 c28 c29 c30 c31 c32 c33
  have key : Hid (Cr ((w.alloc (stO8 0 0 0 0 0 0 0 0)).alloc (stO8 s.d.al s.d.wd s.d.pr s.d.mi s.d.ma s.d.yo s.d.ol s.d.fr)) b S s ∧ Blk ((w.alloc (stO8 0 0 0 0 0 0 0 0)).alloc (stO8 s.d.al s.d.wd s.d.pr s.d.mi s.d.ma s.d.yo s.d.ol s.d.fr)) w.heap.size (stL8 0 0 0 0 0 0 0 0) 31 ∧
      Blk ((w.alloc (stO8 0 0 0 0 0 0 0 0)).alloc (stO8 s.d.al s.d.wd s.d.pr s.d.mi s.d.ma s.d.yo s.d.ol s.d.fr)) (w.heap.size + 1) (stL8 s.d.al s.d.wd s.d.pr s.d.mi s.d.ma s.d.yo s.d.ol s.d.fr) 31 ∧
      Below w.heap.size w ((w.alloc (stO8 0 0 0 0 0 0 0 0)).alloc (stO8 s.d.al s.d.wd s.d.pr s.d.mi s.d.ma s.d.yo s.d.ol s.d.fr)) ∧ w.heap.size + 1 < ((w.alloc (stO8 0 0 0 0 0 0 0 0)).alloc (stO8 s.d.al s.d.wd s.d.pr s.d.mi s.d.ma s.d.yo s.d.ol s.d.fr)).heap.size) :=
    Lib.hid ⟨(HC.out.box _).box _, (Blk.new w _ _).alloc _, by simpa using Blk.new (w.alloc (stO8 0 0 0 0 0 0 0 0)) (stL8 s.d.al s.d.wd s.d.pr s.d.mi s.d.ma s.d.yo s.d.ol s.d.fr) 31, ((Below.refl _ w).alloc (Nat.le_refl _) _).alloc (by simp) _, by simp⟩
  generalize (w.alloc (stO8 0 0 0 0 0 0 0 0)).alloc (stO8 s.d.al s.d.wd s.d.pr s.d.mi s.d.ma s.d.yo s.d.ol s.d.fr) = w2 at key ⊢
  have HC := Lib.hid key.out.1
  have X2 := Lib.hid key.out.2.1
  have X3 := Lib.hid key.out.2.2.1
  have B2 := Lib.hid key.out.2.2.2
  clear key
  obtain ⟨y, c14, hy⟩ := HC.out.half
  have HU := Lib.hid (fun (w' : World) (f : Below w2.heap.size w2 w') => (And.intro ((f.cell (p := ⟨b, 14, Option.none⟩) (by obtain ⟨_, _, _, _, _, _, l⟩ := HC.out.cell; exact l)).trans c14) (And.intro (bUsed_any y _ _ _ _ _ w' (hy.keep f)) (bLeft_any y _ _ _ _ _ w' (hy.keep f)))))
  have hw1 := W1.out
  clear hy c14
  refine region_made_tail (fun _ w' => Below w2.heap.size w2 w') (StV y b (w.heap.size + 1) s.yu s.yv) 12 (by kernel_rfl) (by kernel_rfl) (by kernel_rfl) (stV_some _ _ _ _ _) (below_drew w2) ?_
  simp only [List.take_succ_cons, List.take_zero, List.drop_succ_cons, List.drop_zero]
  refine wpMade_step ?_ ?_
  · intro m w' hg
    go_simp
    first | exact ⟨rfl, hg⟩ | exact rfl
  intro K hK
  rintro _ rfl
  go_simp
  refine hK _ _ ?_
  clear hK K
  refine wpMade_step ?_ ?_
  · intro m w' hg
    go_simp
    first | exact ⟨rfl, hg⟩ | exact rfl
  intro K hK
  rintro _ rfl
  go_simp
  refine hK _ _ ?_
  clear hK K
  refine wpMade_step ?_ ?_
  · intro m w' hg
    go_simp
    first | exact ⟨rfl, hg⟩ | exact rfl
  intro K hK
  rintro _ rfl
  go_simp
  refine hK _ _ ?_
  clear hK K
  refine wpMade_step ?_ ?_
  · intro m w' hg
    have q := (HU.out w' hg).1
    go_simp
    first | exact ⟨rfl, hg⟩ | exact rfl
  intro K hK
  rintro _ rfl
  go_simp
  refine hK _ _ ?_
  clear hK K
  refine wpMade_step ?_ ?_
  · intro m w' hg
    go_simp
    exact (HU.out w' hg).2.1.mono fun e w3 ⟨he, b3⟩ => ⟨_, he, rfl, below_trans hg b3⟩
  intro K hK
  rintro _ rfl
  go_simp
  refine hK _ _ ?_
  clear hK K
  refine wpMade_step ?_ ?_
  · intro m w' hg
    go_simp
    first | exact ⟨rfl, hg⟩ | exact rfl
  intro K hK
  rintro _ rfl
  go_simp
  refine hK _ _ ?_
  clear hK K
  refine wpMade_step ?_ ?_
  · intro m w' hg
    go_simp
    first | exact ⟨rfl, hg⟩ | exact rfl
  intro K hK
  rintro _ rfl
  go_simp
  refine hK _ _ ?_
  clear hK K
  refine wpMade_step ?_ ?_
  · intro m w' hg
    go_simp
    first | exact ⟨rfl, hg⟩ | exact rfl
  intro K hK
  rintro _ rfl
  go_simp
  refine hK _ _ ?_
  clear hK K
  refine wpMade_step ?_ ?_
  · intro m w' hg
    have q := (HU.out w' hg).1
    go_simp
    first | exact ⟨rfl, hg⟩ | exact rfl
  intro K hK
  rintro _ rfl
  go_simp
  refine hK _ _ ?_
  clear hK K
  refine wpMade_step ?_ ?_
  · intro m w' hg
    go_simp
    exact (HU.out w' hg).2.2.mono fun e w3 ⟨he, b3⟩ => ⟨_, he, rfl, below_trans hg b3⟩
  intro K hK
  rintro _ rfl
  go_simp
  refine hK _ _ ?_
  clear hK K
  refine wpMade_step ?_ ?_
  · intro m w' hg
    go_simp
    first | exact ⟨rfl, hg⟩ | exact rfl
  intro K hK
  rintro _ rfl
  go_simp
  refine hK _ _ ?_
  clear hK K
  refine wpMade_step ?_ ?_
  · intro m w' hg
    go_simp
    first | exact ⟨rfl, hg⟩ | exact rfl
  intro K hK
  rintro _ rfl
  go_simp
  refine hK _ _ ?_
  clear hK K
  refine wpMade_nil ?_
  intro w3 hg
  clear hw1
  obtain ⟨d0, d1, d2, d3, d4, d5, d6, d7, df⟩ := (X3.out.keep hg).eight
  have K3 := Lib.hid (HC.out.keep hg)
  have Y2 := Lib.hid (X2.out.keep hg)
  have Y3 := Lib.hid (X3.out.keep hg)
  have B3 := Lib.hid (below_trans B2.out.1 hg)
  have f4 : Frm (fun k => k = w.heap.size + 1) w3 (w3.setCell ⟨w.heap.size + 1, 5, Option.none⟩ (.int .i64 (s.yu + s.yv))) := Frm.setCell (S := fun k => k = w.heap.size + 1) (Frm.refl _ _) (p := ⟨w.heap.size + 1, 5, Option.none⟩) (fun _ => rfl) _
  have K4 := K3.out.frm f4 (fun k hk e => by have := SL.out k hk; omega)
  have Z2 := Lib.hid (Y2.out.frm f4 (by omega))
  have Z3 := Lib.hid (Y3.out.set_ 5 (.int .i64 (s.yu + s.yv)))
  have B4 := Lib.hid (Below.frm B3.out f4 B3.out.size (fun k hk e => by omega))
  obtain ⟨o, c15, hu⟩ := K4.oldUsed
  have e15 : w3.cell? ⟨b, 15, Option.none⟩ = some (.pointer (some ⟨o, 0, Option.none⟩)) := by
    have q := c15
    rwa [World.cell?_setCell_other _ _ _ _ (by simp)] at q
  have HU2 := Lib.hid hu
  have KK := Lib.hid K4
  clear hg HU HC X2 X3 B2 K4 hu c15 f4 K3 Y2 Y3 B3
  go_wp2_with fail
  refine HU2.out.mono ?_
  rintro e w5 ⟨rfl, b5⟩
  have Z3' := Z3.out.keep b5
  simp only [List.setIfInBounds_toArray, List.set_cons_zero, List.set_cons_succ] at Z3'
  have T2 := Lib.hid (Z2.out.keep b5)
  have T3 := Lib.hid Z3'
  have B5 := Lib.hid (below_trans B4.out b5)
  have K5 := KK.out.keep b5
  obtain ⟨P5, own5, h5, _, hc5, _, lb⟩ := K5.cell
  have c2 : w5.cell? ⟨b, 2, Option.none⟩ = some (.int .i64 s.cf.ps) := hc5 2
  have c3 : w5.cell? ⟨b, 3, Option.none⟩ = some (.int .i64 s.cf.pz) := hc5 3
  obtain ⟨d0, d1, d2, d3, d4, d5, d6, d7, df⟩ := Z3'.eight
  have l3 := Z3'.lt
  have l2 := T2.out.lt
  clear h5 hc5 K5 Z3' b5 Z2 Z3 B4 KK HU2 e15
  have hw2 := W2.out
  have hw3 := W3.out
  go_wp2
  go_region
  all_goals
    clear d0 d1 d2 d3 d4 d5 d6 d7 df c2 c3 hw2 hw3
    refine then_world (fun W => Blk W (w.heap.size + 1) (stL8 s.d.al s.d.wd s.d.pr s.d.mi s.d.ma (s.yu + s.yv) s.used (s.cf.ps * s.cf.pz - s.used)) 31 ∧ Frm (fun k => k = w.heap.size + 1) w5 W) ⟨?_, ?_⟩ ?_
    · have q := (T3.out.set_ 6 (.int .i64 s.used)).set_ 7 (.int .i64 (s.cf.ps * s.cf.pz - s.used))
      simp only [List.setIfInBounds_toArray, List.set_cons_zero, List.set_cons_succ] at q
      exact q.drew
    · exact (Frm.setCell (S := fun k => k = w.heap.size + 1) (Frm.setCell (S := fun k => k = w.heap.size + 1) (Frm.refl _ _) (p := ⟨w.heap.size + 1, 6, Option.none⟩) (fun _ => rfl) _) (p := ⟨w.heap.size + 1, 7, Option.none⟩) (fun _ => rfl) _).drew
    rintro W ⟨x3, fr⟩
    have x2 := T2.out.frm fr (by omega)
    have BW := Lib.hid (Below.frm B5.out fr B5.out.size (fun k hk e => by omega))
    obtain ⟨d0, d1, d2, d3, d4, d5, d6, d7, df⟩ := x3.eight
    obtain ⟨e0, e1, e2, e3, e4, e5, e6, e7, ef⟩ := x2.eight
    clear x2 x3 fr T2 T3 B5
    go_wp2
    exact bodyPost_ret (v := stV8 s.d.al s.d.wd s.d.pr s.d.mi s.d.ma (s.yu + s.yv) s.used (s.cf.ps * s.cf.pz - s.used)) (by simp [results, Tryz.results20, go_sem, e0, e1, e2, e3, e4, e5, e6, e7]) rfl
      ⟨rfl, Below.frm BW.out (Frm.set8 (T := fun k => k = w.heap.size) (Frm.refl _ _) _ rfl _ _ _ _ _ _ _ _) BW.out.size (fun k hk e => by omega)⟩
end
end Go.Proofs.YthmhehehomieiaaGreat

/- The document's graph (nodes by their numbers, none of which ever goes) as it lies in memory; what it comes to, as a function of lists. -/
namespace Go.Proofs.YthmhehehomieiaaGreat
open Go.RowKit

/-- A graph: its nodes, from 1 on (what each refers to, and its scalars), what handles hold, and how many fields there may be. -/
structure Gr where
  ns : List (List Int × List Int)
  hs : List Int
  lg : Int

def Gr.has (G : Gr) (h : Int) : Bool := decide (0 ≤ h) && decide (h < G.hs.length)
def Gr.held (G : Gr) (h : Int) : Int := G.hs.getD h.toNat 0
def Gr.wrong (G : Gr) (h : Int) : Int := if G.has h = true then (if G.held h = 0 then 4 else 0) else 3
def Gr.node (G : Gr) (i : Int) : List Int × List Int := G.ns.getD (i.toNat - 1) ([], [])
def Gr.setNode (G : Gr) (i : Int) (x : List Int × List Int) : Gr := { G with ns := G.ns.set (i.toNat - 1) x }
def Gr.hold (G : Gr) (h x : Int) : Gr := { G with hs := G.hs.set h.toNat x }

/-- An entry that changes something: its error, and what it comes to. -/
def Gr.change (G : Gr) (k a b c v : Int) : Int × Gr :=
  if k = 1 then
    if G.has a = true then
      if b < 0 ∨ c < 0 ∨ G.lg < b ∨ G.lg - b < c then (6, G)
      else (0, { G with ns := G.ns ++ [(List.replicate b.toNat 0, List.replicate c.toNat 0)], hs := G.hs.set a.toNat (G.ns.length + 1) })
    else (3, G)
  else if k = 2 then
    if G.wrong b = 0 then
      if G.has a = true then
        if 0 ≤ c ∧ c < (G.node (G.held b)).1.length then (0, G.hold a ((G.node (G.held b)).1.getD c.toNat 0)) else (5, G)
      else (3, G)
    else (G.wrong b, G)
  else if k = 3 then
    if G.wrong a = 0 then
      if G.has c = true then
        if 0 ≤ b ∧ b < (G.node (G.held a)).1.length then (0, G.setNode (G.held a) ((G.node (G.held a)).1.set b.toNat (G.held c), (G.node (G.held a)).2)) else (5, G)
      else (3, G)
    else (G.wrong a, G)
  else if k = 5 then
    if G.wrong a = 0 then
      if 0 ≤ b ∧ b < (G.node (G.held a)).2.length then (0, G.setNode (G.held a) ((G.node (G.held a)).1, (G.node (G.held a)).2.set b.toNat v)) else (5, G)
    else (G.wrong a, G)
  else if k = 6 then
    if G.has a = true then (0, G.hold a 0) else (3, G)
  else if k = 7 then
    if G.has a = true ∧ G.has b = true then (0, G.hold a (G.held b)) else (3, G)
  else (0, G)

/-- A node in memory: what it refers to lies in block pb, its scalars in block sb. -/
structure Nd where
  ps : List Int
  ss : List Int
  pb : Nat
  sb : Nat

def Nd.vs (x : Nd) : List Value := [.slice (some ⟨x.pb, 0, none⟩) x.ps.length x.ps.length, .slice (some ⟨x.sb, 0, none⟩) x.ss.length x.ss.length]
def Nd.two (x : Nd) : List Int × List Int := (x.ps, x.ss)

/-- The nodes' cells, that of number 0 ahead. -/
def ndV (nd : List Nd) : List Value := [.slice none 0 0, .slice none 0 0] ++ nd.flatMap Nd.vs

def wordsU (ys : List Int) : List Value := ys.map (Value.int .u64)

theorem flatNd_length (nd : List Nd) : (nd.flatMap Nd.vs).length = nd.length * 2 := by
  induction nd with
  | nil => rfl
  | cons x nd ih => rw [List.flatMap_cons, List.length_append, ih, List.length_cons]; simp [Nd.vs]; omega

theorem flatNd_at (nd : List Nd) (i j : Nat) (x : Nd) (h : nd[i]? = some x) (hj : j < 2) : (nd.flatMap Nd.vs)[i * 2 + j]? = x.vs[j]? := by
  induction nd generalizing i with
  | nil => simp at h
  | cons y nd ih =>
    rw [List.flatMap_cons]
    cases i with
    | zero =>
      simp at h
      subst h
      rw [Nat.zero_mul, Nat.zero_add]
      exact List.getElem?_append_left (by simpa [Nd.vs] using hj)
    | succ i =>
      simp at h
      rw [List.getElem?_append_right (by simp [Nd.vs]; omega), ← ih i h]
      congr 1
      simp [Nd.vs]; omega

theorem ndV_length (nd : List Nd) : (ndV nd).length = (nd.length + 1) * 2 := by
  rw [ndV, List.length_append, flatNd_length]; simp; omega

theorem ndV_at (nd : List Nd) (i j : Nat) (x : Nd) (h : nd[i]? = some x) (hj : j < 2) : (ndV nd)[(i + 1) * 2 + j]? = x.vs[j]? := by
  rw [ndV, List.getElem?_append_right (by simp; omega), ← flatNd_at nd i j x h hj]
  congr 1
  simp; omega

theorem ndV_snoc (nd : List Nd) (x : Nd) : ndV (nd ++ [x]) = ndV nd ++ x.vs := by simp [ndV, List.flatMap_append]

/-- The cells of nodes hang on blocks and lengths alone. -/
theorem ndV_set (nd : List Nd) (i : Nat) (x y : Nd) (h : nd[i]? = some x) (e : y.vs = x.vs) : ndV (nd.set i y) = ndV nd := by
  unfold ndV
  congr 1
  induction nd generalizing i with
  | nil => rfl
  | cons z nd ih =>
    cases i with
    | zero => simp at h; subst h; simp [e]
    | succ i => simp at h; simp [ih i h]

/-- Block g is the document's graph: nodes in the slice vN, handles in the slice (hA, .., hc). -/
structure IsG (w : World) (g : Nat) (vN : Value) (hA : Option Addr) (hc : Nat) (nd : List Nd) (hs : List Int) (lg : Int) : Prop where
  blk : Blk w g #[vN, .slice hA hs.length hc, .int .i64 lg] 117
  hrow : Qu w hA hs.length hc hs
  nrow : w.ownsRow 0 120 2 vN (nd.length + 1) (ndV nd)
  ptr : ∀ x ∈ nd, Blk w x.pb (ints x.ps).toArray 3
  sca : ∀ x ∈ nd, Blk w x.sb (wordsU x.ss).toArray 51
  hap : ∀ x ∈ nd, blkOf hA ≠ some x.pb
  nap : nd.Pairwise fun x y => x.pb ≠ y.pb ∧ x.sb ≠ y.sb
  hin : ∀ h ∈ hs, 0 ≤ h ∧ h ≤ nd.length
  pin : ∀ x ∈ nd, ∀ q ∈ x.ps, 0 ≤ q ∧ q ≤ nd.length
  few : nd.length ≤ 1048576
  hfew : hs.length ≤ 64
  lg0 : 0 ≤ lg
  lg1 : lg ≤ 64
  size : ∀ x ∈ nd, x.ps.length ≤ 64 ∧ x.ss.length ≤ 64

/-- Its blocks. -/
def gOwn (g : Nat) (vN : Value) (hA : Option Addr) (nd : List Nd) (k : Nat) : Prop := k = g ∨ vN.ownBlock = some k ∨ blkOf hA = some k ∨ ∃ x ∈ nd, k = x.pb ∨ k = x.sb

/-- Block g is the graph G of the document's, in blocks of S. -/
def Rg (w : World) (g : Nat) (S : Nat → Prop) (G : Gr) : Prop :=
  ∃ vN hA hc nd, IsG w g vN hA hc nd G.hs G.lg ∧ G.ns = nd.map Nd.two ∧ S = gOwn g vN hA nd

section
variable {w w' : World} {g : Nat} {vN : Value} {hA : Option Addr} {hc : Nat} {nd : List Nd} {hs : List Int} {lg : Int}

/-- The slice of nodes. -/
theorem IsG.row (h : IsG w g vN hA hc nd hs lg) : ∃ nb nc cur, vN = .slice (some ⟨nb, 0, none⟩) (nd.length + 1) nc ∧ Blk w nb cur 120 ∧ nd.length + 1 ≤ nc ∧ nc ≤ maxLen ∧
    ∀ i j x, nd[i]? = some x → j < 2 → cur[(i + 1) * 2 + j]? = x.vs[j]? := by
  obtain ⟨hl, hv⟩ := h.nrow
  rcases hv with ⟨_, e⟩ | ⟨nb, nc, cur, e, _, hb, hn, hm, hs, ht⟩
  · omega
  · refine ⟨nb, nc, cur, e, hb, hn, hm, fun i j x hx hj => ?_⟩
    have hi : i < nd.length := (List.getElem?_eq_some_iff.1 hx).1
    rw [← ndV_at nd i j x hx hj, ← ht, List.getElem?_take_of_lt (by omega), Array.getElem?_toList]

theorem IsG.own_lt (h : IsG w g vN hA hc nd hs lg) {k : Nat} (hk : gOwn g vN hA nd k) : k < w.heap.size := by
  rcases hk with rfl | e | e | ⟨x, hx, rfl | rfl⟩
  · exact h.blk.lt
  · obtain ⟨nb, nc, cur, rfl, hb, _⟩ := h.row
    cases e
    exact hb.lt
  · exact h.hrow.lt e
  · exact (h.ptr x hx).lt
  · exact (h.sca x hx).lt

theorem ownsRow_frm {S : Nat → Prop} {e : TypeId} {k n : Nat} {v : Value} {xs : List Value} (h : w.ownsRow 0 e k v n xs) (f : Frm S w w') (hs : ∀ j, v.ownBlock = some j → ¬ S j) : w'.ownsRow 0 e k v n xs := by
  obtain ⟨hl, hv⟩ := h
  refine ⟨hl, hv.imp id ?_⟩
  rintro ⟨g, cap, cur, rfl, hb, hg, r⟩
  exact ⟨g, cap, cur, rfl, hb, (show Blk w' g cur e from Blk.frm (S := S) hg f (hs g rfl)), r⟩

theorem IsG.frm {S : Nat → Prop} (h : IsG w g vN hA hc nd hs lg) (f : Frm S w w') (dis : ∀ k, gOwn g vN hA nd k → ¬ S k) : IsG w' g vN hA hc nd hs lg :=
  { h with
    blk := h.blk.frm f (dis _ (.inl rfl))
    hrow := h.hrow.frm f fun k e => dis k (.inr (.inr (.inl e)))
    nrow := ownsRow_frm h.nrow f fun k e => dis k (.inr (.inl e))
    ptr := fun x hx => (h.ptr x hx).frm f (dis _ (.inr (.inr (.inr ⟨x, hx, .inl rfl⟩))))
    sca := fun x hx => (h.sca x hx).frm f (dis _ (.inr (.inr (.inr ⟨x, hx, .inr rfl⟩)))) }

theorem IsG.keep (h : IsG w g vN hA hc nd hs lg) (f : Below w.heap.size w w') : IsG w' g vN hA hc nd hs lg := h.frm (S := fun _ => False) (Frm.of_below f) fun _ _ e => e
end

theorem Rg.keep {w w' : World} {g : Nat} {S : Nat → Prop} {G : Gr} (h : Rg w g S G) (f : Below w.heap.size w w') : Rg w' g S G := by
  obtain ⟨vN, hA, hc, nd, hi, e, es⟩ := h
  exact ⟨vN, hA, hc, nd, hi.keep f, e, es⟩
theorem Rg.frm {w w' : World} {g : Nat} {S T : Nat → Prop} {G : Gr} (h : Rg w g S G) (f : Frm T w w') (dis : ∀ k, S k → ¬ T k) : Rg w' g S G := by
  obtain ⟨vN, hA, hc, nd, hi, e, rfl⟩ := h
  exact ⟨vN, hA, hc, nd, hi.frm f dis, e, rfl⟩
theorem Rg.lt {w : World} {g : Nat} {S : Nat → Prop} {G : Gr} (h : Rg w g S G) {k : Nat} (hk : S k) : k < w.heap.size := by
  obtain ⟨vN, hA, hc, nd, hi, e, rfl⟩ := h
  exact hi.own_lt hk
end Go.Proofs.YthmhehehomieiaaGreat

/- Objects that stand one behind the other, as words of an arena, and as nodes of a graph: lists alone. -/
namespace Go.Proofs.YthmhehehomieiaaGreat
open Go.RowKit

abbrev Node2 := List Int × List Int
def sz (n : Node2) : Nat := n.1.length + n.2.length + 2
def tot (ns : List Node2) : Nat := (ns.map sz).sum
/-- Where node number i + 1 stands. -/
def pos (ns : List Node2) (i : Nat) : Nat := 1 + tot (ns.take i)
/-- What a reference is: 0, or a node's place. -/
def plc (ns : List Node2) (q : Int) : Int := if q ≤ 0 then 0 else pos ns (q.toNat - 1)

theorem tot_nil : tot [] = 0 := rfl
theorem tot_append (a b : List Node2) : tot (a ++ b) = tot a + tot b := by simp [tot]
theorem tot_one (n : Node2) : tot [n] = sz n := by simp [tot]
theorem tot_snoc (a : List Node2) (n : Node2) : tot (a ++ [n]) = tot a + sz n := by rw [tot_append, tot_one]

section
variable {ns ms : List Node2} {i j : Nat} {n m : Node2}

theorem pos_step (h : ns[i]? = some n) : pos ns (i + 1) = pos ns i + sz n := by
  unfold pos
  rw [List.take_add_one, h, Option.toList_some, tot_snoc]
  omega
theorem pos_all : pos ns ns.length = 1 + tot ns := by unfold pos; rw [List.take_length]
theorem pos_mono (h : i ≤ j) : pos ns i ≤ pos ns j := by
  unfold pos
  have : ns.take j = ns.take i ++ (ns.take j).drop i := by
    have := List.take_append_drop i (ns.take j)
    rw [List.take_take, Nat.min_eq_left h] at this
    exact this.symm
  rw [this, tot_append]
  omega
theorem pos_apart (h : ns[i]? = some n) (hij : i < j) : pos ns i + sz n ≤ pos ns j := by rw [← pos_step h]; exact pos_mono hij
theorem pos_end (h : ns[i]? = some n) : pos ns i + sz n ≤ 1 + tot ns := by
  rw [← pos_all]; exact pos_apart h (List.getElem?_eq_some_iff.1 h).1
theorem pos_one : 1 ≤ pos ns i := by unfold pos; omega
theorem sz_two : 2 ≤ sz n := by unfold sz; omega
/-- Places hang on sizes alone. -/
theorem pos_same (h : ns.map sz = ms.map sz) : pos ns i = pos ms i := by
  unfold pos tot
  rw [List.map_take, List.map_take, h]
theorem tot_same (h : ns.map sz = ms.map sz) : tot ns = tot ms := by unfold tot; rw [h]
theorem plc_same (h : ns.map sz = ms.map sz) (q : Int) : plc ns q = plc ms q := by unfold plc; rw [pos_same h]
theorem set_sz (h : ns[i]? = some n) (e : sz m = sz n) : (ns.set i m).map sz = ns.map sz := by
  apply List.ext_getElem?
  intro j
  rw [List.getElem?_map, List.getElem?_map]
  by_cases hj : i = j
  · subst hj
    rw [List.getElem?_set_self (List.getElem?_eq_some_iff.1 h).1, h, Option.map_some, Option.map_some, e]
  · rw [List.getElem?_set_ne hj]
theorem pos_snoc (h : i ≤ ns.length) : pos (ns ++ [n]) i = pos ns i := by
  unfold pos; rw [List.take_append_of_le_length h]
theorem plc_snoc {q : Int} (h : q ≤ ns.length) : plc (ns ++ [n]) q = plc ns q := by
  unfold plc
  split
  · rfl
  · rw [pos_snoc (by omega)]
theorem plc_nil {q : Int} (h0 : 0 ≤ q) : plc ns q = 0 ↔ q = 0 := by
  unfold plc
  have := @pos_one ns (q.toNat - 1)
  split <;> omega
theorem plc_zero : plc ns 0 = 0 := rfl
theorem plc_succ (i : Nat) : plc ns ((i : Int) + 1) = pos ns i := by
  unfold plc
  rw [if_neg (by omega), show ((i : Int) + 1).toNat - 1 = i by omega]
theorem plc_of {q : Int} (h : 0 < q) : plc ns q = pos ns (q.toNat - 1) := by unfold plc; rw [if_neg (by omega)]
theorem plc_in {q : Int} (h1 : q ≤ ns.length) : 0 ≤ plc ns q ∧ plc ns q ≤ 1 + tot ns := by
  unfold plc
  split
  · omega
  · have : pos ns (q.toNat - 1) ≤ pos ns ns.length := pos_mono (by omega)
    rw [pos_all] at this
    omega
theorem plc_inj {q r : Int} (h0 : 0 ≤ q) (h1 : q ≤ ns.length) (k0 : 0 ≤ r) (k1 : r ≤ ns.length) (e : plc ns q = plc ns r) : q = r := by
  rcases Int.lt_or_le 0 q with hq | hq
  · rcases Int.lt_or_le 0 r with hr | hr
    · rw [plc_of hq, plc_of hr] at e
      have lt : ∀ a b : Nat, a < b → b < ns.length → pos ns a ≠ pos ns b := fun a b hab hb e => by
        obtain ⟨x, hx⟩ : ∃ x, ns[a]? = some x := ⟨_, List.getElem?_eq_getElem (by omega)⟩
        have := pos_apart hx hab
        have := @sz_two x
        omega
      rcases Nat.lt_trichotomy (q.toNat - 1) (r.toNat - 1) with h | h | h
      · exact absurd (by omega) (lt _ _ h (by omega))
      · omega
      · exact absurd (by omega) (lt _ _ h (by omega))
    · obtain rfl : r = 0 := by omega
      exact (plc_nil h0).1 (e.trans plc_zero)
  · obtain rfl : q = 0 := by omega
    exact ((plc_nil k0).1 (e.symm.trans plc_zero)).symm
end

/-- A node's words: its head, what it refers to, its scalars. -/
structure NodeW (ws : List Int) (P : Int → Int) (at_ : Nat) (n : Node2) : Prop where
  head : ws[at_]? = some (wordI (n.1.length + n.2.length : Nat) n.1.length 0 0 false false false)
  refs : ∀ (k : Nat) (q : Int), n.1[k]? = some q → ws[at_ + (2 + k)]? = some (P q)
  scas : ∀ (k : Nat) (x : Int), n.2[k]? = some x → ws[at_ + (2 + (n.1.length + k))]? = some x

/-- The nodes' words, one behind the other. -/
structure Lay (ws : List Int) (ns : List Node2) : Prop where
  node : ∀ (i : Nat) (n : Node2), ns[i]? = some n → NodeW ws (plc ns) (pos ns i) n
  refs : ∀ (i : Nat) (n : Node2), ns[i]? = some n → ∀ q ∈ n.1, 0 ≤ q ∧ q ≤ ns.length
  room : 1 + tot ns ≤ ws.length

section
variable {ws vs : List Int} {ns : List Node2} {i k : Nat} {n m : Node2} {P P' : Int → Int} {a : Nat}

/-- Words elsewhere have turned. -/
theorem NodeW.far (h : NodeW ws P a n) (hw : ∀ j, a ≤ j → j < a + sz n → vs[j]? = ws[j]?) (hP : ∀ q ∈ n.1, P' q = P q) : NodeW vs P' a n where
  head := by rw [hw _ (Nat.le_refl _) (by have := @sz_two n; omega)]; exact h.head
  refs := fun k q hq => by
    have hk := (List.getElem?_eq_some_iff.1 hq).1
    rw [hw _ (by omega) (by unfold sz; omega), hP q (List.mem_of_getElem? hq)]
    exact h.refs k q hq
  scas := fun k x hx => by
    have hk := (List.getElem?_eq_some_iff.1 hx).1
    rw [hw _ (by omega) (by unfold sz; omega)]
    exact h.scas k x hx

theorem Lay.set_ref (h : Lay ws ns) (hn : ns[i]? = some n) (hk : k < n.1.length) {q : Int} (q0 : 0 ≤ q) (q1 : q ≤ ns.length) :
    Lay (ws.set (pos ns i + (2 + k)) (plc ns q)) (ns.set i (n.1.set k q, n.2)) := by
  have es : (ns.set i (n.1.set k q, n.2)).map sz = ns.map sz := set_sz hn (by simp [sz])
  have hi := (List.getElem?_eq_some_iff.1 hn).1
  have hp : ∀ r, plc (ns.set i (n.1.set k q, n.2)) r = plc ns r := plc_same es
  have hend := pos_end hn
  have hr := h.room
  have hin : pos ns i + (2 + k) < ws.length := by unfold sz at hend; omega
  refine ⟨fun j m hm => ?_, fun j m hm r hr => ?_, by rw [List.length_set, tot_same es]; exact hr⟩
  · rw [pos_same es]
    by_cases e : j = i
    · subst e
      rw [List.getElem?_set_self hi] at hm
      cases hm
      have old := h.node _ _ hn
      refine ⟨?_, fun k' r hr' => ?_, fun k' x hx => ?_⟩
      · rw [List.getElem?_set_ne (by omega)]
        simpa using old.head
      · rw [hp]
        by_cases ek : k' = k
        · subst ek
          rw [List.getElem?_set_self hk] at hr'
          cases hr'
          rw [List.getElem?_set_self hin]
        · rw [List.getElem?_set_ne (by omega)] at hr' ⊢
          exact old.refs k' r hr'
      · have hk' := (List.getElem?_eq_some_iff.1 hx).1
        simp only [List.length_set] at hx ⊢
        rw [List.getElem?_set_ne (by omega)]
        exact old.scas k' x hx
    · rw [List.getElem?_set_ne (by omega)] at hm
      refine (h.node j m hm).far (fun x h1 h2 => List.getElem?_set_ne ?_) fun r _ => hp r
      rcases Nat.lt_or_gt_of_ne e with hl | hl
      · have := pos_apart hm hl
        omega
      · have := pos_apart hn hl
        unfold sz at this
        omega
  · rw [List.length_set]
    by_cases e : j = i
    · subst e
      rw [List.getElem?_set_self hi] at hm
      cases hm
      rcases List.mem_or_eq_of_mem_set hr with hr | rfl
      · exact h.refs _ _ hn r hr
      · exact ⟨q0, q1⟩
    · rw [List.getElem?_set_ne (by omega)] at hm
      exact h.refs _ _ hm r hr

theorem Lay.set_sca (h : Lay ws ns) (hn : ns[i]? = some n) (hk : k < n.2.length) (x : Int) :
    Lay (ws.set (pos ns i + (2 + (n.1.length + k))) x) (ns.set i (n.1, n.2.set k x)) := by
  have es : (ns.set i (n.1, n.2.set k x)).map sz = ns.map sz := set_sz hn (by simp [sz])
  have hi := (List.getElem?_eq_some_iff.1 hn).1
  have hp : ∀ r, plc (ns.set i (n.1, n.2.set k x)) r = plc ns r := plc_same es
  have hend := pos_end hn
  have hr := h.room
  have hin : pos ns i + (2 + (n.1.length + k)) < ws.length := by unfold sz at hend; omega
  refine ⟨fun j m hm => ?_, fun j m hm r hr => ?_, by rw [List.length_set, tot_same es]; exact hr⟩
  · rw [pos_same es]
    by_cases e : j = i
    · subst e
      rw [List.getElem?_set_self hi] at hm
      cases hm
      have old := h.node _ _ hn
      refine ⟨?_, fun k' r hr' => ?_, fun k' y hy => ?_⟩
      · rw [List.getElem?_set_ne (by omega)]
        simpa using old.head
      · have hk' := (List.getElem?_eq_some_iff.1 hr').1
        simp only at hk'
        rw [hp, List.getElem?_set_ne (by omega)]
        exact old.refs k' r hr'
      · simp only at hy ⊢
        by_cases ek : k' = k
        · subst ek
          rw [List.getElem?_set_self hk] at hy
          cases hy
          rw [List.getElem?_set_self hin]
        · rw [List.getElem?_set_ne (by omega)] at hy ⊢
          exact old.scas k' y hy
    · rw [List.getElem?_set_ne (by omega)] at hm
      refine (h.node j m hm).far (fun y h1 h2 => List.getElem?_set_ne ?_) fun r _ => hp r
      rcases Nat.lt_or_gt_of_ne e with hl | hl
      · have := pos_apart hm hl
        omega
      · have := pos_apart hn hl
        unfold sz at this
        omega
  · rw [List.length_set]
    by_cases e : j = i
    · subst e
      rw [List.getElem?_set_self hi] at hm
      cases hm
      exact h.refs _ _ hn r hr
    · rw [List.getElem?_set_ne (by omega)] at hm
      exact h.refs _ _ hm r hr

theorem splice_at {L cs : List Int} {off j : Nat} (h : off + cs.length ≤ L.length) : (splice L off cs)[j]? = if off ≤ j ∧ j < off + cs.length then cs[j - off]? else L[j]? := by
  unfold splice
  by_cases h1 : j < off
  · rw [if_neg (by omega), List.getElem?_append_left (by rw [List.length_take]; omega), List.getElem?_take_of_lt h1]
  · rw [List.getElem?_append_right (by rw [List.length_take]; omega), List.length_take, Nat.min_eq_left (by omega)]
    by_cases h2 : j < off + cs.length
    · rw [if_pos (by omega), List.getElem?_append_left (by omega)]
    · rw [if_neg (by omega), List.getElem?_append_right (by omega), List.getElem?_drop]
      congr 1
      omega

/-- The words of something that was made. -/
theorem madeW_at {at_ s x : Int} (ha : 0 ≤ at_) (hs : 0 ≤ s) (hi : at_ + (s + 2) ≤ ws.length) :
    (madeW ws at_ s x)[at_.toNat]? = some x ∧ (∀ j, 2 ≤ j → j < (s + 2).toNat → (madeW ws at_ s x)[at_.toNat + j]? = some 0) ∧
    (∀ j, (j < at_.toNat ∨ at_.toNat + (s + 2).toNat ≤ j) → (madeW ws at_ s x)[j]? = ws[j]?) ∧ (madeW ws at_ s x).length = ws.length := by
  have hl : at_.toNat + (List.replicate (s + 2).toNat (0 : Int)).length ≤ ws.length := by rw [List.length_replicate]; omega
  have len : (splice ws at_.toNat (List.replicate (s + 2).toNat (0 : Int))).length = ws.length := splice_len ws hs ⟨ha, hi⟩
  unfold madeW
  refine ⟨?_, fun j h1 h2 => ?_, fun j hj => ?_, by rw [List.length_set, List.length_set, len]⟩
  · rw [List.getElem?_set_ne (by omega), List.getElem?_set_self (by omega)]
  · rw [List.getElem?_set_ne (by omega), List.getElem?_set_ne (by omega), splice_at hl, if_pos (by rw [List.length_replicate]; omega), List.getElem?_replicate, if_pos (by omega)]
  · rw [List.getElem?_set_ne (by omega), List.getElem?_set_ne (by omega), splice_at hl, if_neg (by rw [List.length_replicate]; omega)]

/-- One more node. -/
theorem Lay.add (h : Lay ws ns) (p c : Nat) (hr : 1 + tot ns + (p + c + 2) ≤ ws.length) :
    Lay (madeW ws (1 + tot ns : Nat) (p + c : Nat) (wordI (p + c : Nat) p 0 0 false false false)) (ns ++ [(List.replicate p 0, List.replicate c 0)]) := by
  obtain ⟨m1, m2, m3, m4⟩ := madeW_at (ws := ws) (at_ := (1 + tot ns : Nat)) (s := (p + c : Nat)) (x := wordI (p + c : Nat) p 0 0 false false false) (by omega) (by omega) (by omega)
  generalize madeW ws (1 + tot ns : Nat) (p + c : Nat) (wordI (p + c : Nat) p 0 0 false false false) = vs at *
  simp only [Int.toNat_natCast] at m1 m2 m3
  have e2 : ((p + c : Nat) + 2 : Int).toNat = p + c + 2 := by omega
  rw [e2] at m2 m3
  have hz : sz (List.replicate p (0 : Int), List.replicate c (0 : Int)) = p + c + 2 := by simp [sz]
  refine ⟨fun j m hm => ?_, fun j m hm r hr' => ?_, by rw [m4, tot_snoc, hz]; omega⟩
  · rcases Nat.lt_or_ge j ns.length with hj | hj
    · rw [List.getElem?_append_left hj] at hm
      rw [pos_snoc (by omega)]
      have := pos_end hm
      exact (h.node j m hm).far (fun x h1 h2 => m3 x (.inl (by omega))) fun q hq => plc_snoc (h.refs j m hm q hq).2
    · have e : j = ns.length := by
        have := (List.getElem?_eq_some_iff.1 hm).1
        simp at this
        omega
      subst e
      rw [List.getElem?_append_right (Nat.le_refl _), Nat.sub_self] at hm
      cases hm
      rw [pos_snoc (Nat.le_refl _), pos_all]
      refine ⟨by simpa using m1, fun k q hq => ?_, fun k x hx => ?_⟩
      · have hk := (List.getElem?_eq_some_iff.1 hq).1
        rw [List.length_replicate] at hk
        rw [List.getElem?_replicate, if_pos hk] at hq
        cases hq
        rw [m2 _ (by omega) (by omega)]
        rfl
      · have hk := (List.getElem?_eq_some_iff.1 hx).1
        rw [List.length_replicate] at hk
        rw [List.getElem?_replicate, if_pos hk] at hx
        cases hx
        simp only [List.length_replicate]
        rw [m2 _ (by omega) (by omega)]
  · rw [List.length_append, List.length_singleton]
    rcases Nat.lt_or_ge j ns.length with hj | hj
    · rw [List.getElem?_append_left hj] at hm
      have := h.refs j m hm r hr'
      omega
    · have e : j = ns.length := by
        have := (List.getElem?_eq_some_iff.1 hm).1
        simp at this
        omega
      subst e
      rw [List.getElem?_append_right (Nat.le_refl _), Nat.sub_self] at hm
      cases hm
      have := (List.mem_replicate.1 hr').2
      omega
end
end Go.Proofs.YthmhehehomieiaaGreat

/- A core without cycles is a graph's: what each call comes to, said of the graph. -/
namespace Go.Proofs.YthmhehehomieiaaGreat
open Go.RowKit

/-- The core holds the graph G: its objects stand one behind the other, in the order in which they were made. -/
structure Rep (s : Co) (G : Gr) : Prop where
  calm : s.Calm
  par : s.par = 0
  hs : s.hs = G.hs.map (plc G.ns)
  lg : G.lg = s.cf.lg
  use : s.yu = tot G.ns
  d : s.d = ⟨G.ns.length, tot G.ns, 0, 0, 0, 0, 0, 0⟩
  lay : Lay s.ws G.ns
  hin : ∀ h ∈ G.hs, 0 ≤ h ∧ h ≤ G.ns.length
  wl : (s.ws.length : Int) = s.cf.words
  gx : s.gx = []
  ry : s.ry = []
  rn : s.rn.count true = 0
  room : (tot G.ns : Int) ≤ s.cf.nu
  small : ∀ n ∈ G.ns, n.1.length + n.2.length ≤ 64

theorem usedI_nil : usedI [] = 0 := rfl
theorem Co.Calm.used {s : Co} (h : s.Calm) : s.used = 0 := by unfold Co.used; rw [h.none]; rfl

section
variable {w w' : World} {b : Nat} {S : Nat → Prop} {s : Co} {G : Gr} {h : Int}

theorem Rep.has (r : Rep s G) (h : Int) : s.has h = G.has h := by
  unfold Co.has Gr.has
  rw [r.hs, List.length_map]
theorem Gr.has_iff : G.has h = true ↔ 0 ≤ h ∧ h < G.hs.length := by unfold Gr.has; rw [Bool.and_eq_true, decide_eq_true_eq, decide_eq_true_eq]
theorem Gr.held_mem (e : G.has h = true) : G.hs[h.toNat]? = some (G.held h) := by
  have := Gr.has_iff.1 e
  unfold Gr.held
  rw [List.getD_eq_getElem?_getD, List.getElem?_eq_getElem (show h.toNat < G.hs.length by omega)]
  rfl
theorem Rep.held_in (r : Rep s G) (e : G.has h = true) : 0 ≤ G.held h ∧ G.held h ≤ G.ns.length := r.hin _ (List.mem_of_getElem? (Gr.held_mem e))
theorem Rep.at_ (r : Rep s G) (e : G.has h = true) : s.at_ h = plc G.ns (G.held h) := by
  unfold Co.at_
  rw [if_pos ((r.has h).trans e), r.hs, List.getD_eq_getElem?_getD, List.getElem?_map, Gr.held_mem e]
  rfl
theorem Rep.nil (r : Rep s G) (e : G.has h = true) : s.at_ h = 0 ↔ G.held h = 0 := by
  rw [r.at_ e]; exact plc_nil (r.held_in e).1

/-- The node that a handle holds. -/
theorem Rep.node (r : Rep s G) (e : G.has h = true) (n0 : G.held h ≠ 0) : G.ns[(G.held h).toNat - 1]? = some (G.node (G.held h)) := by
  have := r.held_in e
  unfold Gr.node
  rw [List.getD_eq_getElem?_getD, List.getElem?_eq_getElem (show (G.held h).toNat - 1 < G.ns.length by omega)]
  rfl
theorem Rep.mem (r : Rep s G) (e : G.has h = true) (n0 : G.held h ≠ 0) : G.node (G.held h) ∈ G.ns := List.mem_of_getElem? (r.node e n0)

theorem Rep.place (r : Rep s G) (e : G.has h = true) (n0 : G.held h ≠ 0) : s.at_ h = (pos G.ns ((G.held h).toNat - 1) : Int) := by
  rw [r.at_ e, plc_of (by have := r.held_in e; omega)]

abbrev hd0 : HdP := ⟨0, 0, false, false, false⟩

/-- It is an object. -/
theorem Rep.ob (r : Rep s G) (e : G.has h = true) (n0 : G.held h ≠ 0) :
    Ob s h (pos G.ns ((G.held h).toNat - 1) : Int) ((G.node (G.held h)).1.length + (G.node (G.held h)).2.length : Nat) (G.node (G.held h)).1.length hd0 where
  has := (r.has h).trans e
  at_ := r.place e n0
  x0 := by have := @pos_one G.ns ((G.held h).toNat - 1); omega
  word := by
    have := (r.lay.node _ _ (r.node e n0)).head
    rw [Int.toNat_natCast]
    exact this
  good := by
    have := r.small _ (r.mem e n0)
    exact (goodB_iff ..).2 (by simp only; omega)

theorem Rep.words (r : Rep s G) (hm : s.cf.May) : 1 + (tot G.ns : Int) ≤ s.ws.length ∧ (s.ws.length : Int) ≤ 1048576 ∧ 1 + s.cf.nu ≤ s.ws.length := by
  have e := hm.words
  have := hm.nu1
  have := hm.nu0
  have := r.room
  rw [r.wl]
  unfold Cfg.words
  omega

/-- How an entry ends: an error, and what it comes to. -/
def Act13 (w : World) (b : Nat) (S : Nat → Prop) (s : Co) (E : Int) (G' : Gr) (w' : World) : Prop := ∃ s', CoR w b S s' w' ∧ Rep s' G' ∧ s'.cf = s.cf ∧ (E ≠ 0 → s' = s)

theorem Act13.same (r : Rep s G) (c : CoR w b S s w') (E : Int) : Act13 w b S s E G w' := ⟨s, c, r, rfl, fun _ => rfl⟩

/-- There is no room for what an entry makes. -/
def full (nu : Int) (G : Gr) (k a p q : Int) : Prop := k = 1 ∧ G.has a = true ∧ 0 ≤ p ∧ 0 ≤ q ∧ p ≤ G.lg - q ∧ nu - tot G.ns < p + q + 2
instance (nu : Int) (G : Gr) (k a p q : Int) : Decidable (full nu G k a p q) := by unfold full; infer_instance

def stE (nu : Int) (G : Gr) (k a p q v : Int) : Int := if full nu G k a p q then 7 else (G.change k a p q v).1
def stG (nu : Int) (G : Gr) (k a p q v : Int) : Gr := if full nu G k a p q then G else (G.change k a p q v).2

theorem stE_other {nu k a p q v : Int} (hk : k ≠ 1) : stE nu G k a p q v = (G.change k a p q v).1 := by unfold stE; rw [if_neg fun e => hk e.1]
theorem stG_other {nu k a p q v : Int} (hk : k ≠ 1) : stG nu G k a p q v = (G.change k a p q v).2 := by unfold stG; rw [if_neg fun e => hk e.1]

/-- An object was made. -/
theorem Rep.made (r : Rep s G) (hm : s.cf.May) (a p q : Int) (p0 : 0 ≤ p) (q0 : 0 ≤ q) (hl : p ≤ G.lg - q) (hr : p + q + 2 ≤ s.cf.nu - tot G.ns) :
    Rep (s.made a p q) { G with ns := G.ns ++ [(List.replicate p.toNat 0, List.replicate q.toNat 0)], hs := G.hs.set a.toNat (G.ns.length + 1) } := by
  have hz : sz (List.replicate p.toNat (0 : Int), List.replicate q.toNat (0 : Int)) = p.toNat + q.toNat + 2 := by simp [sz]
  have lg1 := hm.lg1
  have hlg := r.lg
  have hw := r.words hm
  have hn : s.next = ((1 + tot G.ns : Nat) : Int) := by
    unfold Co.next
    rw [r.calm.half, r.use]
    show 1 + (tot G.ns : Int) = _
    omega
  have epq : p + q = ((p.toNat + q.toNat : Nat) : Int) := by omega
  have ep : p = (p.toNat : Int) := by omega
  have hx : s.ws.length = (madeW s.ws s.next (p + q) (wordI (p + q) p 0 s.par false false false)).length :=
    ((madeW_at (ws := s.ws) (at_ := s.next) (s := p + q) (x := wordI (p + q) p 0 s.par false false false) (by omega) (by omega) (by omega)).2.2.2).symm
  exact
    { calm := { left := r.calm.left, half := r.calm.half, idle := r.calm.idle, still := r.calm.still, none := r.calm.none }
      par := r.par
      hs := by
        show (s.hs.set a.toNat s.next) = _
        rw [r.hs, hn]
        simp only
        rw [List.map_set]
        have : plc (G.ns ++ [(List.replicate p.toNat 0, List.replicate q.toNat 0)]) (G.ns.length + 1) = ((1 + tot G.ns : Nat) : Int) := by
          rw [plc_succ, pos_snoc (Nat.le_refl _), pos_all]
        rw [this]
        congr 1
        exact List.map_congr_left fun h hh => (plc_snoc (r.hin h hh).2).symm
      lg := r.lg
      use := by
        show s.yu + (p + q + 2) = _
        rw [r.use]
        simp only
        rw [tot_snoc, hz]
        omega
      d := by
        show Dn.mk (s.d.al + 1) (s.d.wd + (p + q + 2)) s.d.pr s.d.mi s.d.ma s.d.yo s.d.ol s.d.fr = _
        rw [r.d]
        simp only
        rw [tot_snoc, hz, List.length_append, List.length_singleton]
        congr 1
        omega
      lay := by
        show Lay (madeW s.ws s.next (p + q) (wordI (p + q) p 0 s.par false false false)) _
        have := r.lay.add p.toNat q.toNat (by omega)
        rw [hn, r.par, epq]
        conv in wordI _ p _ _ _ _ _ => rw [ep]
        exact this
      hin := fun h hh => by
        simp only at hh ⊢
        rw [List.length_append, List.length_singleton]
        rcases List.mem_or_eq_of_mem_set hh with e | rfl
        · have := r.hin h e; omega
        · omega
      wl := by
        show ((madeW s.ws s.next (p + q) (wordI (p + q) p 0 s.par false false false)).length : Int) = s.cf.words
        rw [← hx]; exact r.wl
      gx := r.gx
      ry := r.ry
      rn := r.rn
      room := by
        show ((tot (G.ns ++ [(List.replicate p.toNat 0, List.replicate q.toNat 0)]) : Nat) : Int) ≤ s.cf.nu
        rw [tot_snoc, hz]
        omega
      small := fun n hn => by
        simp only at hn
        rcases List.mem_append.1 hn with e | e
        · exact r.small n e
        · obtain rfl := List.mem_singleton.1 e
          simp only [List.length_replicate]
          omega }

theorem change_make {a p q v : Int} (e : G.has a = true) (hn : ¬ (p < 0 ∨ q < 0 ∨ G.lg < p ∨ G.lg - p < q)) :
    G.change 1 a p q v = (0, { G with ns := G.ns ++ [(List.replicate p.toNat 0, List.replicate q.toNat 0)], hs := G.hs.set a.toNat (G.ns.length + 1) }) := by
  unfold Gr.change
  rw [if_pos rfl, if_pos e, if_neg hn]
theorem change_size {a p q v : Int} (e : G.has a = true) (hn : p < 0 ∨ q < 0 ∨ G.lg < p ∨ G.lg - p < q) : G.change 1 a p q v = (6, G) := by
  unfold Gr.change
  rw [if_pos rfl, if_pos e, if_pos hn]
theorem change_no {a p q v : Int} (e : G.has a = false) : G.change 1 a p q v = (3, G) := by
  unfold Gr.change
  rw [if_pos rfl, if_neg (by rw [e]; exact Bool.false_ne_true)]

/-- Make. -/
theorem make_rep (hC : Cr w b S s) (r : Rep s G) (a p q v : Int) (q1 : q ≤ 9223372036854775807) :
    Calls Tryz.prog 33 #[ptr b, .int .i64 a, .int .i64 p, .int .i64 q] w fun e w' => e = .returned (.int .i64 (stE s.cf.nu G 1 a p q v)) ∧ Act13 w b S s (stE s.cf.nu G 1 a p q v) (stG s.cf.nu G 1 a p q v) w' := by
  have may := hC.may
  have hlg := r.lg
  have l0 := may.lg0
  have l1 := may.lg1
  unfold stE stG
  cases e : G.has a
  · rw [if_neg (fun h => Bool.false_ne_true (e.symm.trans h.2.1)), if_neg (fun h => Bool.false_ne_true (e.symm.trans h.2.1)), change_no e]
    exact (make_no_h hC a p q ((r.has a).trans e)).mono fun _ _ ⟨h1, h2⟩ => ⟨h1, by subst h2; exact .same r hC.same _⟩
  · have e' := (r.has a).trans e
    by_cases hn : p < 0 ∨ q < 0 ∨ G.lg < p ∨ G.lg - p < q
    · have nf : ¬ full s.cf.nu G 1 a p q := fun h => by obtain ⟨_, _, h3, h4, h5, _⟩ := h; omega
      rw [if_neg nf, if_neg nf, change_size e hn]
      exact (make_size hC a p q e' (by omega) q1).mono fun _ _ ⟨h1, h2⟩ => ⟨h1, by subst h2; exact .same r hC.same _⟩
    · by_cases hf : s.cf.nu - tot G.ns < p + q + 2
      · have yf : full s.cf.nu G 1 a p q := ⟨rfl, e, by omega, by omega, by omega, hf⟩
        rw [if_pos yf, if_pos yf]
        exact (make_room hC a p q e' (by omega) (by omega) (by omega) r.calm.still (by rw [r.use]; exact hf)).mono fun _ _ ⟨h1, h2⟩ => ⟨h1, .same r (hC.stay h2) _⟩
      · have nf : ¬ full s.cf.nu G 1 a p q := fun h => hf h.2.2.2.2.2
        rw [if_neg nf, if_neg nf, change_make e hn]
        have hw := r.words may
        have hnx : s.next = 1 + (tot G.ns : Int) := by unfold Co.next; rw [r.calm.half, r.use]; rfl
        have hd := r.d
        have hcount : (G.ns.length : Int) ≤ tot G.ns := by
          have : ∀ ns : List Node2, ns.length ≤ tot ns := fun ns => by
            induction ns with
            | nil => exact Nat.le_refl _
            | cons n ns ih => have : tot (n :: ns) = sz n + tot ns := by simp [tot]
                              have := @sz_two n
                              rw [List.length_cons]; omega
          have := this G.ns
          omega
        have hroom := r.room
        have hnu := may.nu1
        refine (make_yes_c hC a p q e' (by omega) (by omega) (by omega) r.calm.still (by rw [r.use]; omega) (.inl r.par) (by omega) (by omega) (by rw [hd]; simp only; omega) (by rw [hd]; simp only; omega) (by rw [hd]; simp only; omega) (by rw [hd]; simp only; omega)).mono ?_
        rintro _ _ ⟨h1, h2⟩
        exact ⟨h1, _, h2, r.made may a p q (by omega) (by omega) (by omega) (by omega), rfl, fun h => absurd rfl h⟩
end
end Go.Proofs.YthmhehehomieiaaGreat

/- Entries of a script and their answers, as values; what an entry that asks is answered. -/
namespace Go.Proofs.YthmhehehomieiaaGreat
open Go.RowKit

abbrev anV (e : Int) (y : Bool) (n v : Int) : Value := .agg #[.int .i64 e, .bool y, .int .i64 n, .int .u64 v]

/-- An entry that asks, and what it answers: an error, a flag, a number, a word. -/
def Gr.ask (G : Gr) (k a b : Int) : Int × Bool × Int × Int :=
  if k = 4 then
    if G.wrong a = 0 then
      if 0 ≤ b ∧ b < (G.node (G.held a)).2.length then (0, false, 0, (G.node (G.held a)).2.getD b.toNat 0) else (5, false, 0, 0)
    else (G.wrong a, false, 0, 0)
  else if k = 10 then
    if G.wrong a = 0 then (0, false, (G.node (G.held a)).1.length, (G.node (G.held a)).2.length) else (G.wrong a, false, 0, 0)
  else if k = 8 then
    if G.has a = true ∧ G.has b = true then (0, G.held a == G.held b, 0, 0) else (3, false, 0, 0)
  else if k = 9 then
    if G.has a = true then (0, G.held a == 0, 0, 0) else (3, false, 0, 0)
  else if (k = 11 ∨ k = 12) ∧ (a = 0 ∨ a = 1) then (0, false, 0, 0)
  else (1, false, 0, 0)

/-- Does an entry change something? -/
def turnsK (k : Int) : Prop := k = 1 ∨ k = 2 ∨ k = 3 ∨ k = 5 ∨ k = 6 ∨ k = 7

abbrev anB : Obj := .cells #[.int .i64 0, .bool false, .int .i64 0, .int .u64 0] 55
/-- An answer, laid into its box. -/
abbrev anW (w : World) (k : Nat) (e : Int) (y : Bool) (n v : Int) : World := (((w.setCell ⟨k, 0, none⟩ (.int .i64 e)).setCell ⟨k, 1, none⟩ (.bool y)).setCell ⟨k, 2, none⟩ (.int .i64 n)).setCell ⟨k, 3, none⟩ (.int .u64 v)

theorem anW_blk {w : World} {k : Nat} (h : Blk w k #[.int .i64 0, .bool false, .int .i64 0, .int .u64 0] 55) (e : Int) (y : Bool) (n v : Int) : Blk (anW w k e y n v) k #[.int .i64 e, .bool y, .int .i64 n, .int .u64 v] 55 :=
  (((h.set_ 0 _).set_ 1 _).set_ 2 _).set_ 3 _

theorem anW_frm (w : World) (k : Nat) (e : Int) (y : Bool) (n v : Int) : Frm (fun j => j = k) w (anW w k e y n v) :=
  ((((Frm.refl (fun j => j = k) w).setCell (p := ⟨k, 0, none⟩) (fun _ => rfl) _).setCell (p := ⟨k, 1, none⟩) (fun _ => rfl) _).setCell (p := ⟨k, 2, none⟩) (fun _ => rfl) _).setCell (p := ⟨k, 3, none⟩) (fun _ => rfl) _
end Go.Proofs.YthmhehehomieiaaGreat

/- Get, Set, Write, Clear, Copy; Read, Shape, Same, Nil: what each comes to, said of the graph. -/
namespace Go.Proofs.YthmhehehomieiaaGreat
open Go.RowKit

section
variable {w w' : World} {b : Nat} {S : Nat → Prop} {s : Co} {G : Gr} {h : Int}

/-- What is wrong with a handle. -/
theorem Gr.wrong_cases (G : Gr) (h : Int) : (G.has h = false ∧ G.wrong h = 3) ∨ (G.has h = true ∧ G.held h = 0 ∧ G.wrong h = 4) ∨ (G.has h = true ∧ G.held h ≠ 0 ∧ G.wrong h = 0) := by
  unfold Gr.wrong
  cases e : G.has h
  · exact .inl ⟨rfl, by rw [if_neg Bool.false_ne_true]⟩
  · by_cases z : G.held h = 0
    · exact .inr (.inl ⟨rfl, z, by rw [if_pos rfl, if_pos z]⟩)
    · exact .inr (.inr ⟨rfl, z, by rw [if_pos rfl, if_neg z]⟩)

theorem Rep.wrong (hC : Cr w b S s) (r : Rep s G) (n : G.wrong h ≠ 0) : Wrong (ptr b) h (G.wrong h) w := by
  rcases G.wrong_cases h with ⟨e, k⟩ | ⟨e, z, k⟩ | ⟨_, _, k⟩
  · rw [k]; exact wrong_no hC ((r.has h).trans e)
  · rw [k]; exact wrong_nil hC ((r.has h).trans e) ((r.nil e).2 z)
  · exact absurd k n

theorem Gr.wrong_zero (k : G.wrong h = 0) : G.has h = true ∧ G.held h ≠ 0 := by
  rcases G.wrong_cases h with ⟨e, k'⟩ | ⟨e, z, k'⟩ | ⟨e, z, _⟩
  · omega
  · omega
  · exact ⟨e, z⟩

/-- A handle holds another node. -/
theorem Rep.hold (r : Rep s G) (d q : Int) (q0 : 0 ≤ q) (q1 : q ≤ G.ns.length) : Rep (s.put (s.hs.set d.toNat (plc G.ns q))) (G.hold d q) :=
  { calm := { left := r.calm.left, half := r.calm.half, idle := r.calm.idle, still := r.calm.still, none := r.calm.none }
    par := r.par
    hs := by
      show s.hs.set d.toNat (plc G.ns q) = (G.hs.set d.toNat q).map (plc G.ns)
      rw [r.hs, List.map_set]
    lg := r.lg
    use := r.use
    d := r.d
    lay := r.lay
    hin := fun h hh => by
      rcases List.mem_or_eq_of_mem_set (show h ∈ G.hs.set d.toNat q from hh) with e | rfl
      · exact r.hin h e
      · exact ⟨q0, q1⟩
    wl := r.wl
    gx := r.gx
    ry := r.ry
    rn := r.rn
    room := r.room
    small := r.small }

/-- A node has turned. -/
theorem Rep.turn (r : Rep s G) (i : Int) (m : Node2) (vs : List Int) (hi : G.ns[i.toNat - 1]? = some (G.node i)) (hz : sz m = sz (G.node i)) (hl : Lay vs (G.ns.set (i.toNat - 1) m)) (hv : vs.length = s.ws.length) : Rep (s.wrote vs) (G.setNode i m) := by
  have es := set_sz hi hz
  exact
  { calm := { left := r.calm.left, half := r.calm.half, idle := r.calm.idle, still := r.calm.still, none := r.calm.none }
    par := r.par
    hs := by
      show s.hs = G.hs.map (plc (G.ns.set (i.toNat - 1) m))
      rw [r.hs]
      exact List.map_congr_left fun h _ => (plc_same es h).symm
    lg := r.lg
    use := by
      show s.yu = tot (G.ns.set (i.toNat - 1) m)
      rw [tot_same es]
      exact r.use
    d := by
      show s.d = ⟨(G.ns.set (i.toNat - 1) m).length, tot (G.ns.set (i.toNat - 1) m), 0, 0, 0, 0, 0, 0⟩
      rw [tot_same es, List.length_set]
      exact r.d
    lay := hl
    hin := fun h hh => by
      show 0 ≤ h ∧ h ≤ (G.ns.set (i.toNat - 1) m).length
      rw [List.length_set]
      exact r.hin h hh
    wl := by
      show (vs.length : Int) = s.cf.words
      rw [hv]
      exact r.wl
    gx := r.gx
    ry := r.ry
    rn := r.rn
    room := by
      show (tot (G.ns.set (i.toNat - 1) m) : Int) ≤ s.cf.nu
      rw [tot_same es]
      exact r.room
    small := fun n hn => by
      rcases List.mem_or_eq_of_mem_set (show n ∈ G.ns.set (i.toNat - 1) m from hn) with e | rfl
      · exact r.small n e
      · have := r.small _ (List.mem_of_getElem? hi)
        unfold sz at hz
        omega }

theorem wrap64_in' {n : Int} (h0 : 0 ≤ n) (h1 : n ≤ 9223372036854775807) : wrap64 n = n := by unfold wrap64; omega

theorem refB_no {p n : Int} (h : ¬ (0 ≤ n ∧ n < p)) : refB p n = false := by
  cases e : refB p n
  · rfl
  · exact absurd (refB_iff.1 e) h
theorem scaB_no {z p n : Int} (h : ¬ (0 ≤ n ∧ n < z - p)) : scaB z p n = false := by
  cases e : scaB z p n
  · rfl
  · exact absurd (scaB_iff.1 e) h

/-- Get: entry 2. -/
theorem get_rep (hC : Cr w b S s) (r : Rep s G) (d h n v : Int) :
    Calls Tryz.prog 35 #[ptr b, .int .i64 d, .int .i64 h, .int .i64 n] w fun e w' => e = .returned (.int .i64 (G.change 2 d h n v).1) ∧ Act13 w b S s (G.change 2 d h n v).1 (G.change 2 d h n v).2 w' := by
  unfold Gr.change
  rw [if_neg (by omega), if_pos rfl]
  by_cases k : G.wrong h = 0
  · rw [if_pos k]
    obtain ⟨e, z⟩ := Gr.wrong_zero k
    have o := r.ob e z
    have hi := r.held_in e
    cases ed : G.has d
    · rw [if_neg Bool.false_ne_true]
      exact (get_to hC o d n ((r.has d).trans ed)).mono fun _ _ ⟨h1, h2⟩ => ⟨h1, .same r h2 _⟩
    · rw [if_pos rfl]
      by_cases hn : 0 ≤ n ∧ n < (G.node (G.held h)).1.length
      · rw [if_pos hn]
        have nd := r.node e z
        have hq : (G.node (G.held h)).1[n.toNat]? = some ((G.node (G.held h)).1.getD n.toNat 0) := by
          rw [List.getD_eq_getElem?_getD, List.getElem?_eq_getElem (show n.toNat < (G.node (G.held h)).1.length by omega)]; rfl
        generalize (G.node (G.held h)).1.getD n.toNat 0 = q at *
        have hp := r.lay.refs _ _ nd q (List.mem_of_getElem? hq)
        have hw := (r.lay.node _ _ nd).refs _ _ hq
        have hwd := r.words hC.may
        have pin := @plc_in G.ns q hp.2
        have hroom := r.room
        have hnu := hC.may.nu1
        have e1 : ((pos G.ns ((G.held h).toNat - 1) : Int) + (2 + n)).toNat = pos G.ns ((G.held h).toNat - 1) + (2 + n.toNat) := by omega
        refine (get_yes hC o d n (plc G.ns q) ((r.has d).trans ed) (refB_iff.2 hn) (by rw [e1]; exact hw) (wrap64_in' (by omega) (by omega)) (r.calm.from_ _) (by rw [r.calm.idle]; omega)).mono ?_
        rintro _ _ ⟨h1, h2⟩
        exact ⟨h1, _, h2, r.hold d q hp.1 hp.2, rfl, fun h => absurd rfl h⟩
      · rw [if_neg hn]
        exact (get_field hC o d n ((r.has d).trans ed) (refB_no hn)).mono fun _ _ ⟨h1, h2⟩ => ⟨h1, .same r h2 _⟩
  · rw [if_neg k]
    exact (get_wrong d h n _ k w (r.wrong hC k)).mono fun _ _ ⟨h1, h2⟩ => ⟨h1, .same r (hC.stay h2) _⟩

/-- Set: entry 3. -/
theorem set_rep (hC : Cr w b S s) (r : Rep s G) (h n f v : Int) :
    Calls Tryz.prog 41 #[ptr b, .int .i64 h, .int .i64 n, .int .i64 f] w fun e w' => e = .returned (.int .i64 (G.change 3 h n f v).1) ∧ Act13 w b S s (G.change 3 h n f v).1 (G.change 3 h n f v).2 w' := by
  unfold Gr.change
  rw [if_neg (by omega), if_neg (by omega), if_pos rfl]
  by_cases k : G.wrong h = 0
  · rw [if_pos k]
    obtain ⟨e, z⟩ := Gr.wrong_zero k
    have o := r.ob e z
    have hi := r.held_in e
    cases ed : G.has f
    · rw [if_neg Bool.false_ne_true]
      exact (set_to hC o n f ((r.has f).trans ed)).mono fun _ _ ⟨h1, h2⟩ => ⟨h1, .same r h2 _⟩
    · rw [if_pos rfl]
      by_cases hn : 0 ≤ n ∧ n < (G.node (G.held h)).1.length
      · rw [if_pos hn]
        have nd := r.node e z
        have hq := r.held_in ed
        have hwd := r.words hC.may
        have pin := @plc_in G.ns (G.held f) hq.2
        have hend := pos_end nd
        have hroom := r.room
        have hnu := hC.may.nu1
        have e1 : ((pos G.ns ((G.held h).toNat - 1) : Int) + (2 + n)).toNat = pos G.ns ((G.held h).toNat - 1) + (2 + n.toNat) := by omega
        have hlay := r.lay.set_ref nd (k := n.toNat) (by omega) hq.1 hq.2
        refine (set_yes hC o n f (plc G.ns (G.held f)) ((r.has f).trans ed) (r.at_ ed) (by omega) (by omega) (by omega) (refB_iff.2 hn) (by unfold sz at hend; omega) (r.calm.old _)).mono ?_
        rw [e1]
        rintro _ _ ⟨h1, h2⟩
        exact ⟨h1, _, h2, r.turn (G.held h) _ _ nd (by simp [sz]) hlay (by simp), rfl, fun h => absurd rfl h⟩
      · rw [if_neg hn]
        exact (set_field hC o n f ((r.has f).trans ed) (refB_no hn)).mono fun _ _ ⟨h1, h2⟩ => ⟨h1, .same r h2 _⟩
  · rw [if_neg k]
    exact (set_wrong h n f _ k w (r.wrong hC k)).mono fun _ _ ⟨h1, h2⟩ => ⟨h1, .same r (hC.stay h2) _⟩

/-- Write: entry 5. -/
theorem write_rep (hC : Cr w b S s) (r : Rep s G) (h n c v : Int) :
    Calls Tryz.prog 40 #[ptr b, .int .i64 h, .int .i64 n, .int .u64 v] w fun e w' => e = .returned (.int .i64 (G.change 5 h n c v).1) ∧ Act13 w b S s (G.change 5 h n c v).1 (G.change 5 h n c v).2 w' := by
  unfold Gr.change
  rw [if_neg (by omega), if_neg (by omega), if_neg (by omega), if_pos rfl]
  by_cases k : G.wrong h = 0
  · rw [if_pos k]
    obtain ⟨e, z⟩ := Gr.wrong_zero k
    have o := r.ob e z
    have hi := r.held_in e
    have hz : (((G.node (G.held h)).1.length + (G.node (G.held h)).2.length : Nat) : Int) - (G.node (G.held h)).1.length = (G.node (G.held h)).2.length := by omega
    by_cases hn : 0 ≤ n ∧ n < (G.node (G.held h)).2.length
    · rw [if_pos hn]
      have nd := r.node e z
      have hwd := r.words hC.may
      have hend := pos_end nd
      have e1 : ((pos G.ns ((G.held h).toNat - 1) : Int) + (2 + ((G.node (G.held h)).1.length + n))).toNat = pos G.ns ((G.held h).toNat - 1) + (2 + ((G.node (G.held h)).1.length + n.toNat)) := by omega
      have hlay := r.lay.set_sca nd (k := n.toNat) (by omega) v
      refine (write_yes hC o n v (scaB_iff.2 (by rw [hz]; exact hn)) (by unfold sz at hend; omega)).mono ?_
      rw [e1]
      rintro _ _ ⟨h1, h2⟩
      exact ⟨h1, _, h2, r.turn (G.held h) _ _ nd (by simp [sz]) hlay (by simp), rfl, fun h => absurd rfl h⟩
    · rw [if_neg hn]
      exact (write_field hC o n v (scaB_no (by rw [hz]; exact hn))).mono fun _ _ ⟨h1, h2⟩ => ⟨h1, .same r h2 _⟩
  · rw [if_neg k]
    exact (write_wrong h n v _ k w (r.wrong hC k)).mono fun _ _ ⟨h1, h2⟩ => ⟨h1, .same r (hC.stay h2) _⟩

/-- Clear: entry 6. -/
theorem clear_rep (hC : Cr w b S s) (r : Rep s G) (h n c v : Int) :
    Calls Tryz.prog 44 #[ptr b, .int .i64 h] w fun e w' => e = .returned (.int .i64 (G.change 6 h n c v).1) ∧ Act13 w b S s (G.change 6 h n c v).1 (G.change 6 h n c v).2 w' := by
  unfold Gr.change
  rw [if_neg (by omega), if_neg (by omega), if_neg (by omega), if_neg (by omega), if_pos rfl]
  cases e : G.has h
  · rw [if_neg Bool.false_ne_true]
    exact (clear_no h 3 (by omega) w (noH_no hC ((r.has h).trans e))).mono fun _ _ ⟨h1, h2⟩ => ⟨h1, by subst h2; exact .same r hC.same _⟩
  · rw [if_pos rfl]
    exact (clear_yes hC ((r.has h).trans e)).mono fun _ _ ⟨h1, h2⟩ => ⟨h1, _, h2, r.hold h 0 (by omega) (by omega), rfl, fun h => absurd rfl h⟩

/-- Copy: entry 7. -/
theorem coCopy_rep (hC : Cr w b S s) (r : Rep s G) (d f c v : Int) :
    Calls Tryz.prog 42 #[ptr b, .int .i64 d, .int .i64 f] w fun e w' => e = .returned (.int .i64 (G.change 7 d f c v).1) ∧ Act13 w b S s (G.change 7 d f c v).1 (G.change 7 d f c v).2 w' := by
  unfold Gr.change
  rw [if_neg (by omega), if_neg (by omega), if_neg (by omega), if_neg (by omega), if_neg (by omega), if_pos rfl]
  cases ef : G.has f
  · rw [if_neg (fun h => Bool.false_ne_true h.2)]
    exact (coCopy_no d f 3 (by omega) w (noH_no hC ((r.has f).trans ef))).mono fun _ _ ⟨h1, h2⟩ => ⟨h1, by subst h2; exact .same r hC.same _⟩
  · cases ed : G.has d
    · rw [if_neg (fun h => Bool.false_ne_true h.1)]
      exact (coCopy_to hC f ((r.has f).trans ef) ((r.has d).trans ed)).mono fun _ _ ⟨h1, h2⟩ => ⟨h1, by subst h2; exact .same r hC.same _⟩
    · rw [if_pos ⟨rfl, rfl⟩]
      have hf := r.held_in ef
      have := coCopy_yes hC f ((r.has f).trans ef) ((r.has d).trans ed)
      rw [r.at_ ef] at this
      exact this.mono fun _ _ ⟨h1, h2⟩ => ⟨h1, _, h2, r.hold d _ hf.1 hf.2, rfl, fun h => absurd rfl h⟩

/-- Read: entry 4. -/
theorem read_rep (hC : Cr w b S s) (r : Rep s G) (h n : Int) :
    Calls Tryz.prog 37 #[ptr b, .int .i64 h, .int .i64 n] w fun e w' => e = .returned (.tuple #[.int .u64 (G.ask 4 h n).2.2.2, .int .i64 (G.ask 4 h n).1]) ∧ (G.ask 4 h n).2.1 = false ∧ (G.ask 4 h n).2.2.1 = 0 ∧ CoR w b S s w' := by
  unfold Gr.ask
  rw [if_pos rfl]
  by_cases k : G.wrong h = 0
  · rw [if_pos k]
    obtain ⟨e, z⟩ := Gr.wrong_zero k
    have o := r.ob e z
    have hi := r.held_in e
    have hz : (((G.node (G.held h)).1.length + (G.node (G.held h)).2.length : Nat) : Int) - (G.node (G.held h)).1.length = (G.node (G.held h)).2.length := by omega
    by_cases hn : 0 ≤ n ∧ n < (G.node (G.held h)).2.length
    · rw [if_pos hn]
      have nd := r.node e z
      have hq : (G.node (G.held h)).2[n.toNat]? = some ((G.node (G.held h)).2.getD n.toNat 0) := by
        rw [List.getD_eq_getElem?_getD, List.getElem?_eq_getElem (show n.toNat < (G.node (G.held h)).2.length by omega)]; rfl
      have hw := (r.lay.node _ _ nd).scas _ _ hq
      have e1 : ((pos G.ns ((G.held h).toNat - 1) : Int) + (2 + ((G.node (G.held h)).1.length + n))).toNat = pos G.ns ((G.held h).toNat - 1) + (2 + ((G.node (G.held h)).1.length + n.toNat)) := by omega
      exact (read_yes hC o n _ (scaB_iff.2 (by rw [hz]; exact hn)) (by rw [e1]; exact hw)).mono fun _ _ ⟨h1, h2⟩ => ⟨h1, rfl, rfl, h2⟩
    · rw [if_neg hn]
      exact (read_field hC o n (scaB_no (by rw [hz]; exact hn))).mono fun _ _ ⟨h1, h2⟩ => ⟨h1, rfl, rfl, h2⟩
  · rw [if_neg k]
    exact (read_wrong h n _ k w (r.wrong hC k)).mono fun _ _ ⟨h1, h2⟩ => ⟨h1, rfl, rfl, hC.stay h2⟩

/-- Shape: entry 10. -/
theorem shape_rep (hC : Cr w b S s) (r : Rep s G) (h n : Int) :
    Calls Tryz.prog 34 #[ptr b, .int .i64 h] w fun e w' => e = .returned (.tuple #[.int .i64 (G.ask 10 h n).2.2.1, .int .i64 (G.ask 10 h n).2.2.2, .int .i64 (G.ask 10 h n).1]) ∧ (G.ask 10 h n).2.1 = false ∧ CoR w b S s w' := by
  unfold Gr.ask
  rw [if_neg (by omega), if_pos rfl]
  by_cases k : G.wrong h = 0
  · rw [if_pos k]
    obtain ⟨e, z⟩ := Gr.wrong_zero k
    have hz : (((G.node (G.held h)).1.length + (G.node (G.held h)).2.length : Nat) : Int) - (G.node (G.held h)).1.length = (G.node (G.held h)).2.length := by omega
    have := shape_yes hC (r.ob e z)
    rw [hz] at this
    exact this.mono fun _ _ ⟨h1, h2⟩ => ⟨h1, rfl, h2⟩
  · rw [if_neg k]
    exact (shape_wrong h _ w (r.wrong hC k)).mono fun _ _ ⟨h1, h2⟩ => ⟨h1, rfl, hC.stay h2⟩

/-- Same: entry 8. -/
theorem same_rep (hC : Cr w b S s) (r : Rep s G) (h f : Int) :
    Calls Tryz.prog 43 #[ptr b, .int .i64 h, .int .i64 f] w fun e w' => e = .returned (.tuple #[.bool (G.ask 8 h f).2.1, .int .i64 (G.ask 8 h f).1]) ∧ (G.ask 8 h f).2.2 = (0, 0) ∧ w = w' := by
  unfold Gr.ask
  rw [if_neg (by omega), if_neg (by omega), if_pos rfl]
  cases eh : G.has h
  · rw [if_neg (fun h => Bool.false_ne_true h.1)]
    exact (same_no h f 3 (by omega) w (noH_no hC ((r.has h).trans eh))).mono fun _ _ ⟨h1, h2⟩ => ⟨h1, rfl, h2⟩
  · cases ef : G.has f
    · rw [if_neg (fun h => Bool.false_ne_true h.2)]
      exact (same_to hC f ((r.has h).trans eh) ((r.has f).trans ef)).mono fun _ _ ⟨h1, h2⟩ => ⟨h1, rfl, h2⟩
    · rw [if_pos ⟨rfl, rfl⟩]
      have i1 := r.held_in eh
      have i2 := r.held_in ef
      have := same_yes hC f ((r.has h).trans eh) ((r.has f).trans ef)
      rw [r.at_ eh, r.at_ ef, show decide (plc G.ns (G.held h) = plc G.ns (G.held f)) = (G.held h == G.held f) by
        by_cases e : G.held h = G.held f
        · rw [e]; simp
        · rw [decide_eq_false fun q => e (plc_inj i1.1 i1.2 i2.1 i2.2 q)]; exact (beq_false_of_ne e).symm] at this
      exact this.mono fun _ _ ⟨h1, h2⟩ => ⟨h1, rfl, h2⟩

/-- Nil: entry 9. -/
theorem nil_rep (hC : Cr w b S s) (r : Rep s G) (h f : Int) :
    Calls Tryz.prog 36 #[ptr b, .int .i64 h] w fun e w' => e = .returned (.tuple #[.bool (G.ask 9 h f).2.1, .int .i64 (G.ask 9 h f).1]) ∧ (G.ask 9 h f).2.2 = (0, 0) ∧ w = w' := by
  unfold Gr.ask
  rw [if_neg (by omega), if_neg (by omega), if_neg (by omega), if_pos rfl]
  cases eh : G.has h
  · rw [if_neg Bool.false_ne_true]
    exact (nil_no h 3 (by omega) w (noH_no hC ((r.has h).trans eh))).mono fun _ _ ⟨h1, h2⟩ => ⟨h1, rfl, h2⟩
  · rw [if_pos rfl]
    have := nil_yes hC ((r.has h).trans eh)
    rw [show decide (s.at_ h = 0) = (G.held h == 0) by
      by_cases e : G.held h = 0
      · rw [decide_eq_true ((r.nil eh).2 e), e]; rfl
      · rw [decide_eq_false fun q => e ((r.nil eh).1 q)]; exact (beq_false_of_ne e).symm] at this
    exact this.mono fun _ _ ⟨h1, h2⟩ => ⟨h1, rfl, h2⟩
end
end Go.Proofs.YthmhehehomieiaaGreat

/- The statements' configurations: config. -/
namespace Go.Proofs.YthmhehehomieiaaGreat
open Go.RowKit

/-- The configuration that the statements draw. -/
def cfgOf (a b c d : Int) : Cfg where
  ha := a % 5 + 2
  nu := 24 + b % 60
  ps := b / 16 % 12 + 1
  pz := 16 + 16 * (a / 64)
  cd := (16 + 16 * (a / 64)) / (if c % 3 = 0 then 1 else if c % 3 = 1 then 2 else 4)
  bf := c / 4 % 4
  st := c / 16 % 4 + 1
  tn := c / 64 % 3 + 1
  lg := d % 8 + 1
  mi := d / 8 % 8
  ma := d / 64 * 2
  na := 12 + a % 8
  ja := b % 3 % 2

/-- A byte. -/
def By (a : Int) : Prop := 0 ≤ a ∧ a ≤ 255

/-- A divisor of the page. -/
def dvK (c : Int) : Int := if c % 3 = 0 then 1 else if c % 3 = 1 then 2 else 4
theorem dvK_in (c : Int) : dvK c = 1 ∨ dvK c = 2 ∨ dvK c = 4 := by unfold dvK; split <;> (try split) <;> simp
theorem dvK_wrap (c : Int) : wrap64 (2 ^ (c % 3).toNat) = dvK c := by
  unfold dvK
  have h : c % 3 = 0 ∨ c % 3 = 1 ∨ c % 3 = 2 := by omega
  rcases h with h | h | h <;> rw [h] <;> simp [wrap64]
theorem dvK_div (c x : Int) (x0 : 0 ≤ x) (x1 : x ≤ 100) : wrap64 (x.tdiv (dvK c)) = x / dvK c := by
  rcases dvK_in c with h | h | h <;> rw [h] <;> rw [Int.tdiv_eq_ediv_of_nonneg x0] <;> unfold wrap64 <;> omega

theorem cfgOf_may (a b c d : Int) (ha : By a) (hb : By b) (hc : By c) (hd : By d) : (cfgOf a b c d).May := by
  obtain ⟨a0, a1⟩ := ha
  obtain ⟨b0, b1⟩ := hb
  obtain ⟨c0, c1⟩ := hc
  obtain ⟨d0, d1⟩ := hd
  have e : (cfgOf a b c d).cd = (16 + 16 * (a / 64)) / dvK c := rfl
  constructor
  case cd0 => rw [e]; rcases dvK_in c with h | h | h <;> rw [h] <;> omega
  case cd1 =>
    rw [e]
    show (16 + 16 * (a / 64)).tmod _ = 0
    refine Int.tmod_eq_zero_of_dvd ?_
    rcases dvK_in c with h | h | h <;> rw [h]
    · rw [Int.ediv_one]; exact Int.dvd_refl _
    · exact ⟨2, by omega⟩
    · exact ⟨4, by omega⟩
  all_goals simp only [cfgOf]; omega

set_option maxHeartbeats 4000000 in
theorem config_any (a b c d : Int) (ha : By a) (hb : By b) (hc : By c) (hd : By d) (w : World) :
    Calls Tryz.prog 24 #[.int .u8 a, .int .u8 b, .int .u8 c, .int .u8 d] w fun e w' => e = .returned (cfgOf a b c d).v ∧ Below w.heap.size w w' := by
  obtain ⟨a0, a1⟩ := ha
  obtain ⟨b0, b1⟩ := hb
  obtain ⟨c0, c1⟩ := hc
  obtain ⟨d0, d1⟩ := hd
  have hk := dvK_wrap c
  have hd := dvK_div c (16 + 16 * (a / 64)) (by omega) (by omega)
  have k0 : ¬ dvK c = 0 := by rcases dvK_in c with h | h | h <;> rw [h] <;> omega
  have hE : (cfgOf a b c d).cd = (16 + 16 * (a / 64)) / dvK c := rfl
  have HE := Lib.hid hE
  clear hE
  go_enter Tryz.func24, Tryz.ntmps24
  go_wp2
  exact bodyPost_ret (v := (cfgOf a b c d).v) (by simp [results, Tryz.results24, go_sem]; exact ⟨rfl, rfl, rfl, rfl, HE.out.symm, rfl, rfl, rfl, rfl, rfl, rfl, rfl, rfl⟩) rfl ⟨rfl, (Below.refl _ _).alloc (Nat.le_refl _) _⟩
end Go.Proofs.YthmhehehomieiaaGreat

/- A core made since some world, which holds a graph, with the caller's blocks beside it. -/
namespace Go.Proofs.YthmhehehomieiaaGreat
open Go.RowKit

/-- Block b is a core made since w0, which holds the graph G; no block of Z is its own; what there was is as it was. -/
structure Kz (w0 w : World) (Z : Nat → Prop) (b : Nat) (s : Co) (G : Gr) : Prop where
  is : ∃ S, Cr w b S s ∧ ∀ k, S k → w0.heap.size ≤ k ∧ ¬ Z k
  rep : Rep s G
  bel : Below w0.heap.size w0 w
  low : ∀ k, Z k → w0.heap.size ≤ k ∧ k < w.heap.size

/-- The same, made so. -/
def Kg (w0 w : World) (Z : Nat → Prop) (b : Nat) (c : Cfg) (G : Gr) : Prop := ∃ s, Kz w0 w Z b s G ∧ s.cf = c

section
variable {w0 w w' : World} {Z Z' : Nat → Prop} {b : Nat} {s s' : Co} {c : Cfg} {G G' : Gr}

theorem Kz.write {T : Nat → Prop} (h : Kz w0 w Z b s G) (f : Frm T w w') (hs : ∀ k, k < w.heap.size → T k → Z k) (hz : ∀ k, Z' k → Z k ∨ (w.heap.size ≤ k ∧ k < w'.heap.size)) : Kz w0 w' Z' b s G := by
  obtain ⟨S, hC, ho⟩ := h.is
  refine ⟨⟨S, hC.frm (T := fun k => T k ∧ k < w.heap.size) ⟨f.os, f.tape, f.output, f.size, fun k hk hn => f.block k hk fun e => hn ⟨e, hk⟩⟩ fun k hk ht => (ho k hk).2 (hs k ht.2 ht.1), fun k hk => ⟨(ho k hk).1, fun hz' => ?_⟩⟩, h.rep, ?_, fun k hk => ?_⟩
  · rcases hz k hz' with e | e
    · exact (ho k hk).2 e
    · have := hC.lt hk; omega
  · refine Below.frm (S := fun k => T k ∧ k < w.heap.size) h.bel ⟨f.os, f.tape, f.output, f.size, fun k hk hn => f.block k hk fun e => hn ⟨e, hk⟩⟩ h.bel.size fun k hk ht => ?_
    have := (h.low k (hs k ht.2 ht.1)).1
    omega
  · rcases hz k hk with e | e
    · exact ⟨(h.low k e).1, Nat.lt_of_lt_of_le (h.low k e).2 f.size⟩
    · exact ⟨Nat.le_trans h.bel.size e.1, e.2⟩
theorem Kz.grow (h : Kz w0 w Z b s G) (f : Below w.heap.size w w') (hz : ∀ k, Z' k → Z k ∨ (w.heap.size ≤ k ∧ k < w'.heap.size)) : Kz w0 w' Z' b s G :=
  h.write (T := fun _ => False) (Frm.of_below f) (fun _ _ e => e.elim) hz
theorem Kz.keep (h : Kz w0 w Z b s G) (f : Below w.heap.size w w') : Kz w0 w' Z b s G := h.grow f fun _ => .inl

theorem Kz.step {S : Nat → Prop} (h : Kz w0 w Z b s G) (ho : ∀ k, S k → w0.heap.size ≤ k ∧ ¬ Z k) (r : CoR w b S s' w') (rep : Rep s' G') : Kz w0 w' Z b s' G' ∧ Kp Z w w' := by
  obtain ⟨S', hC, m⟩ := r
  refine ⟨⟨⟨S', hC, fun k hk => ?_⟩, rep, Below.frm h.bel m.frm h.bel.size fun k hk e => ?_, fun k hk => ⟨(h.low k hk).1, Nat.lt_of_lt_of_le (h.low k hk).2 m.frm.size⟩⟩, m.frm.mono fun k _ hk hz => (ho k hk).2 hz⟩
  · rcases m.at_ k hk with e | e
    · exact ho k e
    · exact ⟨Nat.le_trans h.bel.size e, fun hz => by have := (h.low k hz).2; omega⟩
  · have := (ho k e).1; omega

theorem Kz.act {P : Program} {fn : FuncId} {args : Array Value} {R : Ending → Prop} {E : Int} (h : Kz w0 w Z b s G) (c : ∀ S, Cr w b S s → Calls P fn args w fun e w' => R e ∧ Act13 w b S s E G' w') :
    Calls P fn args w fun e w' => R e ∧ ∃ s', Kz w0 w' Z b s' G' ∧ Kp Z w w' ∧ s'.cf = s.cf ∧ (E ≠ 0 → s' = s) := by
  obtain ⟨S, hC, ho⟩ := h.is
  exact (c S hC).mono fun e w' ⟨r, s', k, q, e1, e2⟩ => ⟨r, s', (h.step ho k q).1, (h.step ho k q).2, e1, e2⟩

/-- A call that leaves the core as it is. -/
theorem Kz.look {P : Program} {fn : FuncId} {args : Array Value} {R : Ending → Prop} (h : Kz w0 w Z b s G) (c : ∀ S, Cr w b S s → Calls P fn args w fun e w' => R e ∧ CoR w b S s w') :
    Calls P fn args w fun e w' => R e ∧ Kz w0 w' Z b s G ∧ Kp Z w w' := by
  obtain ⟨S, hC, ho⟩ := h.is
  exact (c S hC).mono fun e w' ⟨r, k⟩ => ⟨r, h.step ho k h.rep⟩

theorem Kg.keep (h : Kg w0 w Z b c G) (f : Below w.heap.size w w') : Kg w0 w' Z b c G := let ⟨s, k, e⟩ := h; ⟨s, k.keep f, e⟩
theorem Kg.grow (h : Kg w0 w Z b c G) (f : Below w.heap.size w w') (hz : ∀ k, Z' k → Z k ∨ (w.heap.size ≤ k ∧ k < w'.heap.size)) : Kg w0 w' Z' b c G := let ⟨s, k, e⟩ := h; ⟨s, k.grow f hz, e⟩
theorem Kg.write {T : Nat → Prop} (h : Kg w0 w Z b c G) (f : Frm T w w') (hs : ∀ k, k < w.heap.size → T k → Z k) (hz : ∀ k, Z' k → Z k ∨ (w.heap.size ≤ k ∧ k < w'.heap.size)) : Kg w0 w' Z' b c G := let ⟨s, k, e⟩ := h; ⟨s, k.write f hs hz, e⟩
theorem Kg.bel (h : Kg w0 w Z b c G) : Below w0.heap.size w0 w := h.choose_spec.1.bel
theorem Kg.low (h : Kg w0 w Z b c G) : ∀ k, Z k → w0.heap.size ≤ k ∧ k < w.heap.size := h.choose_spec.1.low

theorem Kg.act {P : Program} {fn : FuncId} {args : Array Value} {R : Ending → Prop} {E : Int} {G' : Gr} (h : Kg w0 w Z b c G) (q : ∀ S s, s.cf = c → Cr w b S s → Rep s G → Calls P fn args w fun e w' => R e ∧ Act13 w b S s E G' w') :
    Calls P fn args w fun e w' => R e ∧ Kg w0 w' Z b c G' ∧ Kp Z w w' := by
  obtain ⟨s, k, rfl⟩ := h
  exact (k.act fun S hC => q S s rfl hC k.rep).mono fun e w' ⟨r, s', k', p, e1, _⟩ => ⟨r, ⟨s', k', e1⟩, p⟩
theorem Kg.look {P : Program} {fn : FuncId} {args : Array Value} {R : Ending → Prop} (h : Kg w0 w Z b c G) (q : ∀ S s, s.cf = c → Cr w b S s → Rep s G → Calls P fn args w fun e w' => R e ∧ CoR w b S s w') :
    Calls P fn args w fun e w' => R e ∧ Kg w0 w' Z b c G ∧ Kp Z w w' := by
  obtain ⟨s, k, rfl⟩ := h
  exact (k.look fun S hC => q S s rfl hC k.rep).mono fun e w' ⟨r, k', p⟩ => ⟨r, ⟨s, k', rfl⟩, p⟩

/-- A new core. -/
def Gr.none_ (c : Cfg) : Gr := ⟨[], zeros c.ha, c.lg⟩

theorem cellsP_free (F G : Int) (n : Nat) : cellsP F G (List.replicate n Pg.free) = [] := by
  unfold cellsP
  rw [List.flatMap_eq_nil_iff]
  intro i hi
  rw [List.length_replicate] at hi
  rw [List.getD_eq_getElem?_getD, List.getElem?_replicate, if_pos (by simpa using hi)]
  rfl

theorem rep_fresh (hm : c.May) {pt : Pts} : Rep (Co.fresh c pt) (Gr.none_ c) where
  calm := ⟨rfl, rfl, rfl, rfl, cellsP_free _ _ _⟩
  par := rfl
  hs := by
    show zeros c.ha = (zeros c.ha).map (plc [])
    unfold zeros
    rw [List.map_replicate]
    rfl
  lg := rfl
  use := rfl
  d := rfl
  lay := by
    have e := hm.words
    have := hm.nu0
    refine ⟨fun i n h => (by cases h), fun i n h => (by cases h), ?_⟩
    show 1 + 0 ≤ (List.replicate c.words.toNat (0 : Int)).length
    rw [List.length_replicate]
    unfold Cfg.words
    omega
  hin := fun h hh => by
    obtain rfl := (List.mem_replicate.1 hh).2
    exact ⟨by omega, by omega⟩
  wl := by
    have e := hm.words
    have := hm.nu0
    show ((List.replicate c.words.toNat (0 : Int)).length : Int) = c.words
    rw [List.length_replicate]
    unfold Cfg.words
    omega
  gx := rfl
  ry := rfl
  rn := by
    show (List.replicate _ false).count true = 0
    exact List.count_eq_zero.2 fun h => by cases (List.mem_replicate.1 h).2
  room := by have := hm.nu0; show (0 : Int) ≤ c.nu; omega
  small := fun n h => by cases h

theorem kz_new (hm : c.May) (bel : Below w0.heap.size w0 w) (low : ∀ k, Z k → w0.heap.size ≤ k ∧ k < w.heap.size) :
    Calls Tryz.prog 19 #[c.v] w fun e w' => ∃ b pt, e = .returned (.tuple #[ptr b, .int .i64 0]) ∧ Kz w0 w' Z b (Co.fresh c pt) (Gr.none_ c) ∧ Kp Z w w' :=
  (coNew_yes c w hm).mono fun _ _ ⟨b, S, pt, he, hC, hb, ho⟩ => ⟨b, pt, he, ⟨⟨S, hC, fun k hk => ⟨Nat.le_trans bel.size (ho k hk), fun hz => by have := (low k hz).2; have := ho k hk; omega⟩⟩, rep_fresh hm, below_trans bel hb, fun k hk => ⟨(low k hk).1, Nat.lt_of_lt_of_le (low k hk).2 hb.size⟩⟩, Kp.of_below hb⟩
theorem kg_new (hm : c.May) (bel : Below w0.heap.size w0 w) (low : ∀ k, Z k → w0.heap.size ≤ k ∧ k < w.heap.size) :
    Calls Tryz.prog 19 #[c.v] w fun e w' => ∃ b, e = .returned (.tuple #[ptr b, .int .i64 0]) ∧ Kg w0 w' Z b c (Gr.none_ c) ∧ Kp Z w w' :=
  (kz_new hm bel low).mono fun _ _ ⟨b, _, he, k, p⟩ => ⟨b, he, ⟨_, k, rfl⟩, p⟩

/-! The entries, by a core that was made so. -/

theorem kg_make (h : Kg w0 w Z b c G) (a p q : Int) (q1 : q ≤ 9223372036854775807) :
    Calls Tryz.prog 33 #[ptr b, .int .i64 a, .int .i64 p, .int .i64 q] w fun e w' => e = .returned (.int .i64 (stE c.nu G 1 a p q 0)) ∧ Kg w0 w' Z b c (stG c.nu G 1 a p q 0) ∧ Kp Z w w' :=
  h.act (E := stE c.nu G 1 a p q 0) fun _ _ e hC r => by have := make_rep hC r a p q 0 q1; rwa [e] at this
theorem kg_get (h : Kg w0 w Z b c G) (d a n : Int) :
    Calls Tryz.prog 35 #[ptr b, .int .i64 d, .int .i64 a, .int .i64 n] w fun e w' => e = .returned (.int .i64 (G.change 2 d a n 0).1) ∧ Kg w0 w' Z b c (G.change 2 d a n 0).2 ∧ Kp Z w w' :=
  h.act (E := (G.change 2 d a n 0).1) fun _ _ _ hC r => get_rep hC r d a n 0
theorem kg_set (h : Kg w0 w Z b c G) (a n f : Int) :
    Calls Tryz.prog 41 #[ptr b, .int .i64 a, .int .i64 n, .int .i64 f] w fun e w' => e = .returned (.int .i64 (G.change 3 a n f 0).1) ∧ Kg w0 w' Z b c (G.change 3 a n f 0).2 ∧ Kp Z w w' :=
  h.act (E := (G.change 3 a n f 0).1) fun _ _ _ hC r => set_rep hC r a n f 0
theorem kg_write (h : Kg w0 w Z b c G) (a n v : Int) :
    Calls Tryz.prog 40 #[ptr b, .int .i64 a, .int .i64 n, .int .u64 v] w fun e w' => e = .returned (.int .i64 (G.change 5 a n 0 v).1) ∧ Kg w0 w' Z b c (G.change 5 a n 0 v).2 ∧ Kp Z w w' :=
  h.act (E := (G.change 5 a n 0 v).1) fun _ _ _ hC r => write_rep hC r a n 0 v
theorem kg_clear (h : Kg w0 w Z b c G) (a : Int) :
    Calls Tryz.prog 44 #[ptr b, .int .i64 a] w fun e w' => e = .returned (.int .i64 (G.change 6 a 0 0 0).1) ∧ Kg w0 w' Z b c (G.change 6 a 0 0 0).2 ∧ Kp Z w w' :=
  h.act (E := (G.change 6 a 0 0 0).1) fun _ _ _ hC r => clear_rep hC r a 0 0 0
theorem kg_copy (h : Kg w0 w Z b c G) (d f : Int) :
    Calls Tryz.prog 42 #[ptr b, .int .i64 d, .int .i64 f] w fun e w' => e = .returned (.int .i64 (G.change 7 d f 0 0).1) ∧ Kg w0 w' Z b c (G.change 7 d f 0 0).2 ∧ Kp Z w w' :=
  h.act (E := (G.change 7 d f 0 0).1) fun _ _ _ hC r => coCopy_rep hC r d f 0 0
theorem kg_read (h : Kg w0 w Z b c G) (a n : Int) :
    Calls Tryz.prog 37 #[ptr b, .int .i64 a, .int .i64 n] w fun e w' => e = .returned (.tuple #[.int .u64 (G.ask 4 a n).2.2.2, .int .i64 (G.ask 4 a n).1]) ∧ Kg w0 w' Z b c G ∧ Kp Z w w' :=
  h.look fun _ _ _ hC r => (read_rep hC r a n).mono fun _ _ ⟨h1, _, _, h2⟩ => ⟨h1, h2⟩
theorem kg_shape (h : Kg w0 w Z b c G) (a : Int) :
    Calls Tryz.prog 34 #[ptr b, .int .i64 a] w fun e w' => e = .returned (.tuple #[.int .i64 (G.ask 10 a 0).2.2.1, .int .i64 (G.ask 10 a 0).2.2.2, .int .i64 (G.ask 10 a 0).1]) ∧ Kg w0 w' Z b c G ∧ Kp Z w w' :=
  h.look fun _ _ _ hC r => (shape_rep hC r a 0).mono fun _ _ ⟨h1, _, h2⟩ => ⟨h1, h2⟩
theorem kg_same (h : Kg w0 w Z b c G) (a f : Int) :
    Calls Tryz.prog 43 #[ptr b, .int .i64 a, .int .i64 f] w fun e w' => e = .returned (.tuple #[.bool (G.ask 8 a f).2.1, .int .i64 (G.ask 8 a f).1]) ∧ w = w' := by
  obtain ⟨s, k, _⟩ := h
  obtain ⟨S, hC, _⟩ := k.is
  exact (same_rep hC k.rep a f).mono fun _ _ ⟨h1, _, h2⟩ => ⟨h1, h2⟩
theorem kg_nil (h : Kg w0 w Z b c G) (a : Int) :
    Calls Tryz.prog 36 #[ptr b, .int .i64 a] w fun e w' => e = .returned (.tuple #[.bool (G.ask 9 a 0).2.1, .int .i64 (G.ask 9 a 0).1]) ∧ w = w' := by
  obtain ⟨s, k, _⟩ := h
  obtain ⟨S, hC, _⟩ := k.is
  exact (nil_rep hC k.rep a 0).mono fun _ _ ⟨h1, _, h2⟩ => ⟨h1, h2⟩
theorem kg_stats (h : Kg w0 w Z b c G) :
    Calls Tryz.prog 20 #[ptr b] w fun e w' => e = .returned (stV8 G.ns.length (tot G.ns) 0 0 0 (tot G.ns) 0 (c.ps * c.pz)) ∧ Below w.heap.size w w' := by
  obtain ⟨s, k, rfl⟩ := h
  obtain ⟨S, hC, _⟩ := k.is
  have u := k.rep.calm.used
  have := stats_any hC (by omega) (by omega)
  rw [u, k.rep.calm.left, k.rep.use, k.rep.d, Int.add_zero, Int.sub_zero] at this
  exact this
end
end Go.Proofs.YthmhehehomieiaaGreat

/- Contracts of the document's graph: has, wrong, New. -/
namespace Go.Proofs.YthmhehehomieiaaGreat
open Go.RowKit

section
variable {w : World} {g : Nat} {S : Nat → Prop} {G : Gr}

/-- A handle that there is, and what it holds. -/
theorem Rg.at_ (h : Rg w g S G) {a : Int} (ha : G.has a = true) : ∃ (i : Nat) (x : Int), a = i ∧ i < G.hs.length ∧ G.hs[i]? = some x ∧ G.held a = x ∧ 0 ≤ x ∧ x ≤ G.ns.length := by
  obtain ⟨vN, hA, hc, nd, hi, e, rfl⟩ := h
  unfold Gr.has at ha
  simp at ha
  obtain ⟨i, rfl⟩ : ∃ i : Nat, a = i := ⟨a.toNat, by omega⟩
  have hl : i < G.hs.length := by omega
  have hx := List.getElem?_eq_getElem hl
  have hin := hi.hin _ (List.mem_of_getElem? hx)
  refine ⟨i, _, rfl, hl, hx, ?_, hin.1, ?_⟩
  · unfold Gr.held
    rw [Int.toNat_natCast, List.getD_eq_getElem?_getD, hx]; rfl
  · rw [e, List.length_map]; exact hin.2
end

set_option maxHeartbeats 1000000 in
theorem rgHas_any (w : World) (g : Nat) (S : Nat → Prop) (G : Gr) (h : Int) (r : Rg w g S G) :
    Calls Tryz.prog 73 #[.pointer (some ⟨g, 0, none⟩), .int .i64 h] w fun e w' => e = .returned (.bool (G.has h)) ∧ w = w' := by
  obtain ⟨vN, hA, hc, nd, hi, _, _⟩ := r
  have c1 : w.cell? ⟨g, 1, none⟩ = some (.slice hA G.hs.length hc) := hi.blk.cell 1
  clear hi
  unfold Gr.has
  generalize G.hs.length = n at c1 ⊢
  by_cases h0 : 0 ≤ h
  · have d0 : decide (0 ≤ h) = true := decide_eq_true h0
    go_enter Tryz.func73, Tryz.ntmps73
    go_wp2
    all_goals
      go_ret
      exact ⟨by first | rfl | exact ret_bool (by simp [h0]) | exact ret_bool (by simp; omega), rfl⟩
  · have d0 : decide (0 ≤ h) = false := decide_eq_false h0
    go_enter Tryz.func73, Tryz.ntmps73
    go_wp2
    all_goals
      go_ret
      exact ⟨by first | rfl | exact ret_bool (by simp [h0]) | exact ret_bool (by simp; omega), rfl⟩

set_option maxHeartbeats 1000000 in
theorem rgWrong_any (w : World) (g : Nat) (S : Nat → Prop) (G : Gr) (h : Int) (r : Rg w g S G) :
    Calls Tryz.prog 72 #[.pointer (some ⟨g, 0, none⟩), .int .i64 h] w fun e w' => e = .returned (.int .i64 (G.wrong h)) ∧ w = w' := by
  have HH := Lib.hid (rgHas_any w g S G h r)
  cases hb : G.has h
  · have HW := Lib.hid (show G.wrong h = 3 from by simp [Gr.wrong, hb])
    rw [hb] at HH
    clear r hb
    go_enter Tryz.func72, Tryz.ntmps72
    go_wp2_with fail
    refine HH.out.mono ?_
    rintro e w1 ⟨rfl, rfl⟩
    go_wp2
    go_ret
    exact ⟨ret_int HW.out.symm, rfl⟩
  · obtain ⟨i, x, rfl, hl, hx, hv, x0, x1⟩ := r.at_ hb
    have HW := Lib.hid (show G.wrong i = if x = 0 then 4 else 0 from by simp [Gr.wrong, hb, hv])
    obtain ⟨vN, hA, hc, nd, hi, _, _⟩ := r
    have c1 : w.cell? ⟨g, 1, none⟩ = some (.slice hA G.hs.length hc) := hi.blk.cell 1
    obtain ⟨q, off, rfl, _, hcx, _⟩ := hi.hrow.at_ (by omega)
    have cx := hcx i x hx
    have hf := hi.hfew
    rw [hb] at HH
    clear hi hcx hv hx hb
    generalize G.hs.length = n at c1 hl hf ⊢
    by_cases z : x = 0
    · subst z
      rw [if_pos rfl] at HW
      go_enter Tryz.func72, Tryz.ntmps72
      go_wp2_with fail
      refine HH.out.mono ?_
      rintro e w1 ⟨rfl, rfl⟩
      go_wp2
      go_ret
      exact ⟨ret_int HW.out.symm, rfl⟩
    · rw [if_neg z] at HW
      go_enter Tryz.func72, Tryz.ntmps72
      go_wp2_with fail
      refine HH.out.mono ?_
      rintro e w1 ⟨rfl, rfl⟩
      go_wp2
      go_ret
      exact ⟨ret_int HW.out.symm, rfl⟩

theorem info_node : (Tryz.prog.info? 120).map (fun i => (i.zero, i.size, i.bytes)) = some (some (.agg #[.slice none 0 0, .slice none 0 0]), 2, 48) := by kernel_rfl

theorem run_make_node (w : World) :
    (Instr.makeSlice 115 (.int .i64 1) (.int .i64 1)).run Tryz.prog w = .ok (.slice (some ⟨w.heap.size, 0, none⟩) 1 1) (w.alloc (.cells #[.slice none 0 0, .slice none 0 0] 120)) := by
  obtain ⟨i, hi, hz, hs, hb⟩ := info_parts info_node
  have h := run_make (P := Tryz.prog) w 115 120 i _ Tryz.underlying115 hi hz .i64 .i64 1 1 (by decide) (Int.le_refl _) (by rw [hb]; decide) (by decide)
  rw [hs] at h
  have e : madeCells (Value.agg #[.slice none 0 0, .slice none 0 0]).cells (Int.toNat 1 * 2) = #[.slice none 0 0, .slice none 0 0] := by
    apply Array.ext
    · simp [madeCells]
    · intro i h1 h2
      have hi : i < 2 := by simpa using h2
      match i, hi with
      | 0, _ => simp [madeCells, Value.cells]
      | 1, _ => simp [madeCells, Value.cells]
  rw [e] at h
  exact h

/-- How many handles there are. -/
def nhI (h : Int) : Nat := (min (max h 0) 64).toNat

/-- A graph that was just made. -/
def Gr.new (h l : Int) : Gr := ⟨[], List.replicate (nhI h) 0, cutI l 0 64⟩

theorem rep_snoc (i : Nat) : List.replicate i (0 : Int) ++ [0] = List.replicate (i + 1) 0 := by
  rw [List.replicate_succ']

theorem IsG.setHs {w : World} {g : Nat} {vN : Value} {hA hA' : Option Addr} {hc hc' : Nat} {nd : List Nd} {hs hs' : List Int} {lg : Int} (h : IsG w g vN hA hc nd hs lg) {w' : World} (gr : Grw hA hA' w w') (q : Qu w' hA' hs'.length hc' hs')
    (hin : ∀ x ∈ hs', 0 ≤ x ∧ x ≤ nd.length) (hf : hs'.length ≤ 64) :
    IsG (w'.setCell ⟨g, 1, none⟩ (.slice hA' hs'.length hc')) g vN hA' hc' nd hs' lg ∧ Mv (gOwn g vN hA nd) (gOwn g vN hA' nd) w (w'.setCell ⟨g, 1, none⟩ (.slice hA' hs'.length hc')) := by
  have no : ∀ {k : Nat} {cs : Array Value} {ty : TypeId}, Blk w k cs ty → ty ≠ 3 → blkOf hA ≠ some k := by
    intro k cs ty hk n1 e
    rcases h.hrow.lies with ⟨rfl, _⟩ | ⟨g', off, cs', rfl, hb', _⟩
    · cases e
    · cases e
      exact Blk.ne_ hk hb' n1 rfl
  have kb := h.blk.frm gr.frm (no h.blk (by decide))
  have fs : Frm (fun k => k = g) w' (w'.setCell ⟨g, 1, none⟩ (.slice hA' hs'.length hc')) := Frm.setCell (S := fun k => k = g) (Frm.refl _ _) (p := ⟨g, 1, none⟩) (fun _ => rfl) _
  have gq : ∀ k, blkOf hA' = some k → k ≠ g := by
    rintro k e rfl
    rcases q.lies with ⟨rfl, _⟩ | ⟨g', off, cs', rfl, hb', _⟩
    · cases e
    · cases e
      exact Blk.ne_ kb hb' (by decide) rfl
  obtain ⟨nb, nc, cur, en, hnb, _⟩ := h.row
  have nr : w'.ownsRow 0 120 2 vN (nd.length + 1) (ndV nd) := ownsRow_frm h.nrow gr.frm (by
    intro j e; rw [en] at e; cases e; exact no hnb (by decide))
  have hap' : ∀ x ∈ nd, blkOf hA' ≠ some x.pb := by
    intro x hx e
    rcases gr.at_ _ e with e1 | e1
    · exact h.hap x hx e1
    · have := (h.ptr x hx).lt; omega
  refine ⟨{ blk := kb.set_ 1 _, hrow := q.frm fs gq, nrow := ownsRow_frm nr fs ?_, ptr := ?_, sca := ?_, hap := hap', nap := h.nap, hin := hin, pin := h.pin, few := h.few, hfew := hf, lg0 := h.lg0, lg1 := h.lg1, size := h.size }, ?_, ?_⟩
  · intro j e; rw [en] at e; cases e
    exact fun e => Blk.ne_ (hnb.frm gr.frm (no hnb (by decide))) kb (by decide) e
  · intro x hx
    have k1 := (h.ptr x hx).frm gr.frm (h.hap x hx)
    exact k1.frm fs fun e => Blk.ne_ k1 kb (by decide) e
  · intro x hx
    have k1 := (h.sca x hx).frm gr.frm (no (h.sca x hx) (by decide))
    exact k1.frm fs fun e => Blk.ne_ k1 kb (by decide) e
  · refine Frm.setCell (p := ⟨g, 1, none⟩) (gr.frm.mono fun i _ e => .inr (.inr (.inl e))) (fun _ => .inl rfl) _
  · rintro k (rfl | e | e | e)
    · exact .inl (.inl rfl)
    · exact .inl (.inr (.inl e))
    · rcases gr.at_ k e with e | e
      · exact .inl (.inr (.inr (.inl e)))
      · exact .inr e
    · exact .inl (.inr (.inr (.inr e)))

theorem IsG.four {w : World} {g : Nat} {vN : Value} {hA : Option Addr} {hc : Nat} {nd : List Nd} {hs : List Int} {lg : Int} (h : IsG w g vN hA hc nd hs lg) :
    w.cell? ⟨g, 0, none⟩ = some vN ∧ w.cell? ⟨g, 1, none⟩ = some (.slice hA hs.length hc) ∧ w.cell? ⟨g, 2, none⟩ = some (.int .i64 lg) ∧ ∀ i, w.frozen? ⟨g, i, none⟩ = false := ⟨h.blk.cell 0, h.blk.cell 1, h.blk.cell 2, h.blk.frozen⟩

/-- Where New stands behind i handles. -/
def NewR (w : World) (g : Nat) (L : Int) (i : Nat) (w' : World) : Prop := ∃ nb hA hc, IsG w' g (.slice (some ⟨nb, 0, none⟩) 1 1) hA hc [] (List.replicate i 0) L ∧ (∀ k, gOwn g (.slice (some ⟨nb, 0, none⟩) 1 1) hA [] k → w.heap.size ≤ k) ∧ Below w.heap.size w w'

theorem newR_start (w : World) (L : Int) (h0 : 0 ≤ L) (h1 : L ≤ 64) (w' : World) (g : Nat)
    (hb : Blk w' g #[.slice (some ⟨w.heap.size, 0, none⟩) 1 1, .slice none 0 0, .int .i64 L] 117) (hn : Blk w' w.heap.size #[.slice none 0 0, .slice none 0 0] 120) (gw : w.heap.size ≤ g) (bel : Below w.heap.size w w') : NewR w g L 0 w' := by
  refine ⟨w.heap.size, none, 0, ⟨hb, Qu.nil _, ⟨rfl, .inr ⟨w.heap.size, 1, _, rfl, Nat.zero_le _, hn, Nat.le_refl _, by decide, rfl, rfl⟩⟩, by simp, by simp, by simp, .nil, by simp, by simp, by simp, by simp, h0, h1, by simp⟩, ?_, bel⟩
  rintro k (rfl | e | e | ⟨x, hx, _⟩)
  · exact gw
  · cases e; exact Nat.le_refl _
  · cases e
  · cases hx

theorem newR_first (w : World) (L : Int) (h0 : 0 ≤ L) (h1 : L ≤ 64) :
    NewR w (w.heap.size + 1) L 0 ((w.alloc (.cells #[.slice none 0 0, .slice none 0 0] 120)).alloc (.cells #[.slice (some ⟨w.heap.size, 0, none⟩) 1 1, .slice none 0 0, .int .i64 L] 117)) := by
  have b1 := Blk.new (w.alloc (.cells #[.slice none 0 0, .slice none 0 0] 120)) #[.slice (some ⟨w.heap.size, 0, none⟩) 1 1, .slice none 0 0, .int .i64 L] 117
  rw [show (w.alloc (.cells #[.slice none 0 0, .slice none 0 0] 120)).heap.size = w.heap.size + 1 by simp] at b1
  exact newR_start w L h0 h1 _ _ b1 ((Blk.new w _ _).alloc _) (by omega) (((Below.refl _ _).alloc (Nat.le_refl _) _).alloc (by simp) _)

/-- One more handle. -/
theorem NewR.more {w w1 w2 : World} {g : Nat} {L : Int} {i hc hc' nb : Nat} {hA hA' : Option Addr} (h : IsG w1 g (.slice (some ⟨nb, 0, none⟩) 1 1) hA hc [] (List.replicate i 0) L) (low : ∀ k, gOwn g (.slice (some ⟨nb, 0, none⟩) 1 1) hA [] k → w.heap.size ≤ k)
    (bel : Below w.heap.size w w1) (gr : Grw hA hA' w1 w2) (q : Qu w2 hA' (i + 1) hc' (List.replicate i 0 ++ [0])) (hi : i < 64) : NewR w g L (i + 1) (w2.setCell ⟨g, 1, none⟩ (.slice hA' (i + 1) hc')) := by
  rw [rep_snoc] at q
  have hl : (List.replicate (i + 1) (0 : Int)).length = i + 1 := List.length_replicate
  have q' : Qu w2 hA' (List.replicate (i + 1) (0 : Int)).length hc' (List.replicate (i + 1) 0) := by rw [hl]; exact q
  obtain ⟨h1, mv⟩ := h.setHs gr q' (fun x hx => by rw [List.eq_of_mem_replicate hx]; simp) (by rw [hl]; omega)
  rw [hl] at h1 mv
  refine ⟨nb, hA', hc', h1, fun k hk => ?_, Below.frm bel mv.frm bel.size fun k hk e => ?_⟩
  · rcases mv.at_ k hk with e | e
    · exact low k e
    · exact Nat.le_trans bel.size e
  · have := low k e; omega

set_option maxHeartbeats 4000000 in
theorem rgNew_any (hn l : Int) (w : World) :
    Calls Tryz.prog 25 #[.int .i64 hn, .int .i64 l] w fun e w' => ∃ g, e = .returned (.pointer (some ⟨g, 0, none⟩)) ∧ ∃ S, Rg w' g S (Gr.new hn l) ∧ Below w.heap.size w w' ∧ ∀ k, S k → w.heap.size ≤ k := by
  have hmk := run_make_node
  obtain ⟨n, hnn⟩ : ∃ n, nhI hn = n := ⟨_, rfl⟩
  have n1 : (n : Int) = min (max hn 0) 64 := by rw [← hnn]; unfold nhI; omega
  obtain ⟨L, hL⟩ : ∃ L, cutI l 0 64 = L := ⟨_, rfl⟩
  have L0 : 0 ≤ L := by rw [← hL]; exact (cutI_in (by decide)).1
  have L1 : L ≤ 64 := by rw [← hL]; exact (cutI_in (by decide)).2
  have eG : Gr.new hn l = ⟨[], List.replicate n 0, L⟩ := by unfold Gr.new; rw [hnn, hL]
  rw [eG]
  have HZ := Lib.hid (newR_first w L L0 L1)
  have hN := Lib.hid n1
  clear hnn eG n1
  have hs : (l < 0 ∧ L = 0) ∨ (64 < l ∧ L = 64) ∨ (0 ≤ l ∧ l ≤ 64 ∧ L = l) := by
    rw [← hL]; unfold cutI
    by_cases h0 : l < 0
    · exact .inl ⟨h0, if_pos h0⟩
    · by_cases h1 : 64 < l
      · exact .inr (.inl ⟨h1, by rw [if_neg h0, if_pos h1]⟩)
      · exact .inr (.inr ⟨by omega, by omega, by rw [if_neg h0, if_neg h1]⟩)
  clear hL
  rcases hs with ⟨h0, rfl⟩ | ⟨h0, rfl⟩ | ⟨h0, h1, rfl⟩
  all_goals
    go_enter Tryz.func25, Tryz.ntmps25
    go_wp2_with fail
    clear hmk
    go_loopw [6] (fun s wr => ∃ i : Nat, i ≤ n ∧ s = .int .i64 i ∧ Hid (NewR w (w.heap.size + 1) _ i wr)) (fun s _ => n - (intOf s).toNat)
    case atStart => exact ⟨0, Nat.zero_le _, rfl, HZ⟩
    case round =>
      clear HZ
      obtain ⟨i, hi, rfl, HR⟩ := hrel
      generalize w.heap.size + 1 = g at *
      by_cases hlt : i < n
      · have i1 : (i : Int) < hn := by have := hN.out; omega
        have i2 : (i : Int) < 64 := by have := hN.out; omega
        obtain ⟨nb, hA, hc, hg, low, bel⟩ := HR.out
        obtain ⟨c0, c1, c2, cf⟩ := hg.four
        rw [List.length_replicate] at c1
        have hl := hg.blk.lt
        have al : Below wr.heap.size wr (wr.alloc (.cells #[.int .i64 0] 3)) := (Below.refl _ _).alloc (Nat.le_refl _) _
        have H2 := Lib.hid (And.intro (hg.keep al) (And.intro low (below_trans bel al)))
        have Q2 := Lib.hid (show Qu (wr.alloc (.cells #[.int .i64 0] 3)) hA i hc (List.replicate i 0) from by have := (hg.keep al).hrow; rwa [List.length_replicate] at this)
        have E2 := Lib.hid (show (wr.alloc (.cells #[.int .i64 0] 3)).cell? ⟨wr.heap.size, 0, none⟩ = some (.int .i64 0) from (Blk.new wr #[.int .i64 0] 3).cell 0)
        clear hg low bel c0 c2 al HR
        go_wp2_with (first
          | (at_builtin; (refine wpList_append_qu _ rfl _ _ rfl Q2.out (by omega) 0 ⟨wr.heap.size, 0, none⟩ 1 rfl rfl E2.out ?_))
          | fail)
        intro A' c' w2 q gr
        have kb := H2.out.1.blk.frm gr.frm (fun e => by
          rcases H2.out.1.hrow.lies with ⟨rfl, _⟩ | ⟨g', off, cs', rfl, hb', _⟩
          · cases e
          · cases e
            exact Blk.ne_ H2.out.1.blk hb' (by decide) rfl)
        have cf2 : w2.frozen? ⟨g, 1, none⟩ = false := kb.frozen 1
        have ex2 : w2.cell? ⟨g, 1, none⟩ = some (.slice hA (List.replicate i (0 : Int)).length hc) := kb.cell 1
        have HN := Lib.hid (NewR.more H2.out.1 H2.out.2.1 H2.out.2.2 gr q (by omega))
        clear kb q gr H2 Q2 E2 c1 cf
        go_wp2
        go_roundw
        case rel => exact ⟨i + 1, by omega, by go_num, HN⟩
        case measure => simp [intOf]; omega
      · obtain rfl : n = i := by omega
        have HE := Lib.hid (show ∃ S, Rg wr g S ⟨[], List.replicate n 0, _⟩ ∧ Below w.heap.size w wr ∧ ∀ k, S k → w.heap.size ≤ k from by
          obtain ⟨nb, hA, hc, hg, low, bel⟩ := HR.out
          exact ⟨_, ⟨_, _, _, [], hg, rfl, rfl⟩, bel, low⟩)
        have hs : ¬ ((n : Int) < hn ∧ (n : Int) < 64) := by have := hN.out; omega
        clear HR
        by_cases i1 : (n : Int) < hn
        · have i2 : ¬ (n : Int) < 64 := fun e => hs ⟨i1, e⟩
          go_wp2
          go_ret
          exact ⟨_, rfl, HE.out⟩
        · go_wp2
          go_ret
          exact ⟨_, rfl, HE.out⟩
end Go.Proofs.YthmhehehomieiaaGreat

/- The document's graph: how it turns in memory where a handle, a reference or a scalar is set, or a node is added. -/
namespace Go.Proofs.YthmhehehomieiaaGreat
open Go.RowKit

section
variable {w : World} {g : Nat} {vN : Value} {hA : Option Addr} {hc : Nat} {nd : List Nd} {hs : List Int} {lg : Int}

theorem IsG.hNe (h : IsG w g vN hA hc nd hs lg) {k : Nat} {cs : Array Value} {ty : TypeId} (hk : Blk w k cs ty) (n1 : ty ≠ 3) : blkOf hA ≠ some k := by
  intro e
  rcases h.hrow.lies with ⟨rfl, _⟩ | ⟨g', off, cs', rfl, hb', _⟩
  · cases e
  · cases e
    exact Blk.ne_ hk hb' n1 rfl

/-- A handle holds something else. -/
theorem IsG.hold {q off : Nat} (h : IsG w g vN (some ⟨q, off, none⟩) hc nd hs lg) (i : Nat) (x : Int) (x0 : 0 ≤ x) (x1 : x ≤ nd.length) :
    IsG (w.setCell ⟨q, off + i, none⟩ (.int .i64 x)) g vN (some ⟨q, off, none⟩) hc nd (hs.set i x) lg ∧ Mv (gOwn g vN (some ⟨q, off, none⟩) nd) (gOwn g vN (some ⟨q, off, none⟩) nd) w (w.setCell ⟨q, off + i, none⟩ (.int .i64 x)) := by
  have fs : Frm (fun k => k = q) w (w.setCell ⟨q, off + i, none⟩ (.int .i64 x)) := Frm.setCell (S := fun k => k = q) (Frm.refl _ _) (p := ⟨q, off + i, none⟩) (fun _ => rfl) _
  have hl : (hs.set i x).length = hs.length := List.length_set
  obtain ⟨nb, nc, cur, en, hnb, _⟩ := h.row
  refine ⟨{ h with blk := ?_, hrow := ?_, nrow := ownsRow_frm h.nrow fs ?_, ptr := ?_, sca := ?_, hin := ?_, hfew := by rw [hl]; exact h.hfew }, fs.mono fun k _ e => .inr (.inr (.inl (by rw [e]; rfl))), fun k e => .inl e⟩
  · rw [hl]; exact h.blk.frm fs fun e => h.hNe h.blk (by decide) (by rw [e]; rfl)
  · rw [hl]; exact h.hrow.put i x
  · intro j e; rw [en] at e; cases e
    intro (e : nb = q)
    exact h.hNe hnb (by decide) (by rw [e]; rfl)
  · exact fun y hy => (h.ptr y hy).frm fs fun e => h.hap y hy (by rw [e]; rfl)
  · exact fun y hy => (h.sca y hy).frm fs fun e => h.hNe (h.sca y hy) (by decide) (by rw [e]; rfl)
  · intro y hy
    rcases List.mem_or_eq_of_mem_set hy with hy | rfl
    · exact h.hin y hy
    · exact ⟨x0, x1⟩

theorem nd_set {nd : List Nd} {i : Nat} {x y : Nd} (_ : nd[i]? = some x) (P : Nd → Prop) (hp : ∀ z ∈ nd, P z) (hy : P y) : ∀ z ∈ nd.set i y, P z := by
  intro z hz
  rcases List.mem_or_eq_of_mem_set hz with hz | rfl
  · exact hp z hz
  · exact hy

theorem pair_set {nd : List Nd} {i : Nat} {x y : Nd} (h : nd[i]? = some x) (e1 : y.pb = x.pb) (e2 : y.sb = x.sb) (hp : nd.Pairwise fun x y => x.pb ≠ y.pb ∧ x.sb ≠ y.sb) : (nd.set i y).Pairwise fun x y => x.pb ≠ y.pb ∧ x.sb ≠ y.sb := by
  rw [List.pairwise_iff_getElem] at hp ⊢
  intro a b ha hb hab
  rw [List.length_set] at ha hb
  obtain ⟨_, hi⟩ := List.getElem?_eq_some_iff.1 h
  have := hp a b ha hb hab
  rw [List.getElem_set, List.getElem_set]
  by_cases h1 : i = a
  · subst h1
    rw [if_pos rfl, if_neg (by omega), e1, e2, ← hi]; exact this
  · by_cases h2 : i = b
    · subst h2
      rw [if_neg h1, if_pos rfl, e1, e2, ← hi]; exact this
    · rw [if_neg h1, if_neg h2]; exact this

theorem other_blk {i : Nat} {x : Nd} (hx : nd[i]? = some x) (hp : nd.Pairwise fun x y => x.pb ≠ y.pb ∧ x.sb ≠ y.sb) {j : Nat} {z : Nd} (hz : nd[j]? = some z) (hj : i ≠ j) : z.pb ≠ x.pb ∧ z.sb ≠ x.sb := by
  rw [List.pairwise_iff_getElem] at hp
  obtain ⟨hi, rfl⟩ := List.getElem?_eq_some_iff.1 hx
  obtain ⟨hj', rfl⟩ := List.getElem?_eq_some_iff.1 hz
  rcases Nat.lt_or_gt_of_ne hj with hlt | hlt
  · have := hp i j hi hj' hlt; exact ⟨fun e => this.1 e.symm, fun e => this.2 e.symm⟩
  · exact hp j i hj' hi hlt

theorem gOwn_set {i : Nat} {x y : Nd} (hx : nd[i]? = some x) (e1 : y.pb = x.pb) (e2 : y.sb = x.sb) {k : Nat} : gOwn g vN hA (nd.set i y) k → gOwn g vN hA nd k := by
  rintro (e | e | e | ⟨z, hz, e⟩)
  · exact .inl e
  · exact .inr (.inl e)
  · exact .inr (.inr (.inl e))
  · rcases List.mem_or_eq_of_mem_set hz with hz | rfl
    · exact .inr (.inr (.inr ⟨z, hz, e⟩))
    · exact .inr (.inr (.inr ⟨x, List.mem_of_getElem? hx, by rw [← e1, ← e2]; exact e⟩))

theorem ints_set (ys : List Int) (k : Nat) (v : Int) : (ints ys).toArray.setIfInBounds k (.int .i64 v) = (ints (ys.set k v)).toArray := by apply Array.ext'; simp [ints]
theorem wordsU_set (ys : List Int) (k : Nat) (v : Int) : (wordsU ys).toArray.setIfInBounds k (.int .u64 v) = (wordsU (ys.set k v)).toArray := by apply Array.ext'; simp [wordsU]

/-- A node refers to something else. -/
theorem IsG.refer {i : Nat} {x : Nd} (h : IsG w g vN hA hc nd hs lg) (hx : nd[i]? = some x) (k : Nat) (v : Int) (v0 : 0 ≤ v) (v1 : v ≤ nd.length) :
    IsG (w.setCell ⟨x.pb, k, none⟩ (.int .i64 v)) g vN hA hc (nd.set i ⟨x.ps.set k v, x.ss, x.pb, x.sb⟩) hs lg ∧ Mv (gOwn g vN hA nd) (gOwn g vN hA (nd.set i ⟨x.ps.set k v, x.ss, x.pb, x.sb⟩)) w (w.setCell ⟨x.pb, k, none⟩ (.int .i64 v)) := by
  have fs : Frm (fun j => j = x.pb) w (w.setCell ⟨x.pb, k, none⟩ (.int .i64 v)) := Frm.setCell (S := fun j => j = x.pb) (Frm.refl _ _) (p := ⟨x.pb, k, none⟩) (fun _ => rfl) _
  have hm := List.mem_of_getElem? hx
  obtain ⟨nb, nc, cur, en, hnb, _⟩ := h.row
  have bx := h.ptr x hm
  have hl : (nd.set i ⟨x.ps.set k v, x.ss, x.pb, x.sb⟩).length = nd.length := List.length_set
  refine ⟨{ blk := h.blk.frm fs (fun e => Blk.ne_ h.blk bx (by decide) e), hrow := h.hrow.frm fs (fun j hj e => h.hap x hm (by rw [hj, e])), nrow := ?_, ptr := ?_, sca := ?_, hap := nd_set hx _ h.hap (h.hap x hm), nap := (pair_set hx rfl rfl h.nap), hin := (by rw [hl]; exact h.hin), pin := ?_, few := (by rw [hl]; exact h.few), hfew := h.hfew, lg0 := h.lg0, lg1 := h.lg1, size := nd_set hx _ h.size (by rw [List.length_set]; exact h.size x hm) }, ?_, fun j e => .inl (gOwn_set (y := ⟨x.ps.set k v, x.ss, x.pb, x.sb⟩) hx rfl rfl e)⟩
  · rw [hl, ndV_set nd i x _ hx (by simp [Nd.vs])]
    refine ownsRow_frm h.nrow fs ?_
    intro j e; rw [en] at e; cases e
    exact fun e => Blk.ne_ hnb bx (by decide) e
  · intro z hz
    rw [List.mem_iff_getElem?] at hz
    obtain ⟨j, hj⟩ := hz
    by_cases e : i = j
    · subst e
      have hi := (List.getElem?_eq_some_iff.1 hx).1
      rw [List.getElem?_set_self hi] at hj
      cases hj
      have := bx.set_ k (.int .i64 v)
      rw [ints_set] at this
      exact this
    · rw [List.getElem?_set_ne e] at hj
      exact (h.ptr z (List.mem_of_getElem? hj)).frm fs (other_blk hx h.nap hj e).1
  · refine nd_set hx (fun z => Blk (w.setCell ⟨x.pb, k, none⟩ (.int .i64 v)) z.sb (wordsU z.ss).toArray 51) (fun z hz => (h.sca z hz).frm fs fun e => Blk.ne_ (h.sca z hz) bx (by decide) e) ((h.sca x hm).frm fs fun e => Blk.ne_ (h.sca x hm) bx (by decide) e)
  · rw [hl]
    refine nd_set hx (fun z => ∀ q ∈ z.ps, 0 ≤ q ∧ q ≤ nd.length) h.pin fun q hq => ?_
    rcases List.mem_or_eq_of_mem_set hq with hq | rfl
    · exact h.pin x hm q hq
    · exact ⟨v0, v1⟩
  · exact fs.mono fun j _ e => .inr (.inr (.inr ⟨x, hm, .inl e⟩))

/-- A node has another scalar. -/
theorem IsG.write {i : Nat} {x : Nd} (h : IsG w g vN hA hc nd hs lg) (hx : nd[i]? = some x) (k : Nat) (v : Int) :
    IsG (w.setCell ⟨x.sb, k, none⟩ (.int .u64 v)) g vN hA hc (nd.set i ⟨x.ps, x.ss.set k v, x.pb, x.sb⟩) hs lg ∧ Mv (gOwn g vN hA nd) (gOwn g vN hA (nd.set i ⟨x.ps, x.ss.set k v, x.pb, x.sb⟩)) w (w.setCell ⟨x.sb, k, none⟩ (.int .u64 v)) := by
  have fs : Frm (fun j => j = x.sb) w (w.setCell ⟨x.sb, k, none⟩ (.int .u64 v)) := Frm.setCell (S := fun j => j = x.sb) (Frm.refl _ _) (p := ⟨x.sb, k, none⟩) (fun _ => rfl) _
  have hm := List.mem_of_getElem? hx
  obtain ⟨nb, nc, cur, en, hnb, _⟩ := h.row
  have bx := h.sca x hm
  have hl : (nd.set i ⟨x.ps, x.ss.set k v, x.pb, x.sb⟩).length = nd.length := List.length_set
  refine ⟨{ blk := h.blk.frm fs (fun e => Blk.ne_ h.blk bx (by decide) e), hrow := h.hrow.frm fs (fun j hj e => h.hNe bx (by decide) (by rw [hj, e])), nrow := ?_, ptr := ?_, sca := ?_, hap := nd_set hx _ h.hap (h.hap x hm), nap := (pair_set hx rfl rfl h.nap), hin := (by rw [hl]; exact h.hin), pin := ?_, few := (by rw [hl]; exact h.few), hfew := h.hfew, lg0 := h.lg0, lg1 := h.lg1, size := nd_set hx _ h.size (by rw [List.length_set]; exact h.size x hm) }, ?_, fun j e => .inl (gOwn_set (y := ⟨x.ps, x.ss.set k v, x.pb, x.sb⟩) hx rfl rfl e)⟩
  · rw [hl, ndV_set nd i x _ hx (by simp [Nd.vs])]
    refine ownsRow_frm h.nrow fs ?_
    intro j e; rw [en] at e; cases e
    exact fun e => Blk.ne_ hnb bx (by decide) e
  · refine nd_set hx (fun z => Blk (w.setCell ⟨x.sb, k, none⟩ (.int .u64 v)) z.pb (ints z.ps).toArray 3) (fun z hz => (h.ptr z hz).frm fs fun e => Blk.ne_ (h.ptr z hz) bx (by decide) e) ((h.ptr x hm).frm fs fun e => Blk.ne_ (h.ptr x hm) bx (by decide) e)
  · intro z hz
    rw [List.mem_iff_getElem?] at hz
    obtain ⟨j, hj⟩ := hz
    by_cases e : i = j
    · subst e
      have hi := (List.getElem?_eq_some_iff.1 hx).1
      rw [List.getElem?_set_self hi] at hj
      cases hj
      have := bx.set_ k (.int .u64 v)
      rw [wordsU_set] at this
      exact this
    · rw [List.getElem?_set_ne e] at hj
      exact (h.sca z (List.mem_of_getElem? hj)).frm fs (other_blk hx h.nap hj e).2
  · rw [hl]
    exact nd_set hx (fun z => ∀ q ∈ z.ps, 0 ≤ q ∧ q ≤ nd.length) h.pin (h.pin x hm)
  · exact fs.mono fun j _ e => .inr (.inr (.inr ⟨x, hm, .inr e⟩))
end

section
variable {w : World} {g : Nat} {S : Nat → Prop} {G : Gr}
/-- A node that there is. -/
theorem node_at {nd : List Nd} (e : G.ns = nd.map Nd.two) {x : Int} (x0 : 0 < x) (x1 : x ≤ nd.length) : ∃ (i : Nat) (y : Nd), x = ((i + 1 : Nat) : Int) ∧ nd[i]? = some y ∧ G.node x = (y.ps, y.ss) ∧ x.toNat - 1 = i := by
  obtain ⟨i, rfl⟩ : ∃ i : Nat, x = ((i + 1 : Nat) : Int) := ⟨x.toNat - 1, by omega⟩
  have hi : i < nd.length := by omega
  refine ⟨i, _, rfl, List.getElem?_eq_getElem hi, ?_, by omega⟩
  unfold Gr.node
  rw [e, Int.toNat_natCast, Nat.add_sub_cancel, List.getD_eq_getElem?_getD, List.getElem?_map, List.getElem?_eq_getElem hi]
  rfl
end
end Go.Proofs.YthmhehehomieiaaGreat

/- Contracts of the document's graph: entries that change something, but making. -/
namespace Go.Proofs.YthmhehehomieiaaGreat
open Go.RowKit

abbrev sgV (k a b c v : Int) : Value := .agg #[.int .i64 k, .int .i64 a, .int .i64 b, .int .i64 c, .int .u64 v]
abbrev stB (k a b c v : Int) : Obj := .cells #[.int .i64 k, .int .i64 a, .int .i64 b, .int .i64 c, .int .u64 v] 53

/-- An error, and what it comes to. -/
def ChR (w : World) (g : Nat) (S : Nat → Prop) (G : Gr) (k a b c v : Int) (e : Ending) (w' : World) : Prop :=
  e = .returned (.int .i64 (G.change k a b c v).1) ∧ ∃ S', Rg w' g S' (G.change k a b c v).2 ∧ Mv S S' w w'

theorem chR_err {w w' : World} {g : Nat} {S : Nat → Prop} {G : Gr} {k a b c v x : Int} (h : Rg w g S G) (f : Below w.heap.size w w') (e : G.change k a b c v = (x, G)) : ChR w g S G k a b c v (.returned (.int .i64 x)) w' := by
  unfold ChR
  rw [e]
  exact ⟨rfl, S, h.keep f, Mv.of_below f⟩

section
variable (w : World) (g : Nat) (S : Nat → Prop) (G : Gr) (a b c v : Int)

set_option maxRecDepth 100000 in
set_option maxHeartbeats 4000000 in
theorem rgClear (r : Rg w g S G) : Calls Tryz.prog 71 #[.pointer (some ⟨g, 0, none⟩), sgV 6 a b c v] w fun e w' => ChR w g S G 6 a b c v e w' := by
  have al : Below w.heap.size w (w.alloc (stB 6 a b c v)) := (Below.refl _ _).alloc (Nat.le_refl _) _
  have HH := Lib.hid (rgHas_any _ g S G a (r.keep al))
  cases hb : G.has a
  · rw [hb] at HH
    have HE := Lib.hid (chR_err (k := 6) (a := a) (b := b) (c := c) (v := v) (x := 3) r al (by simp [Gr.change, hb]))
    clear r hb al
    go_enter Tryz.func71, Tryz.ntmps71
    go_wp2_with fail
    refine HH.out.mono ?_
    rintro e w1 ⟨rfl, rfl⟩
    go_wp2
    go_ret
    exact HE.out
  · obtain ⟨i, x, rfl, hl, hx, hv, x0, x1⟩ := r.at_ hb
    rw [hb] at HH
    have ec : G.change 6 i b c v = (0, G.hold i 0) := by simp [Gr.change, hb]
    obtain ⟨vN, hA, hc, nd, hi, eN, rfl⟩ := r
    have hk := hi.keep al
    obtain ⟨q, off, rfl, _, hcx, hfz⟩ := hk.hrow.at_ (by omega)
    have cx := hcx i x hx
    have kb := Blk.new w #[.int .i64 6, .int .i64 i, .int .i64 b, .int .i64 c, .int .u64 v] 53
    have hf := hi.hfew
    obtain ⟨c0, c1, c2, cf⟩ := hk.four
    have HE := Lib.hid (fun (w' : World) (f : Below (w.alloc (stB 6 i b c v)).heap.size (w.alloc (stB 6 i b c v)) w') => (show ChR w g (gOwn g vN (some ⟨q, off, none⟩) nd) G 6 i b c v (.returned (.int .i64 0)) (w'.setCell ⟨q, off + i, none⟩ (.int .i64 0)) from by
      obtain ⟨h1, mv⟩ := (hk.keep f).hold i 0 (by decide) (by omega)
      unfold ChR
      rw [ec]
      exact ⟨rfl, _, ⟨vN, _, hc, nd, by unfold Gr.hold; rw [Int.toNat_natCast]; exact h1, eN, rfl⟩, Mv.pre (below_trans al f) mv⟩))
    have s1 := kb.cell 1
    have sf := kb.frozen
    clear hi hcx hv hx hb ec kb al x0 x1 eN c0 c2
    generalize G.hs.length = n at c1 hl hf
    go_enter Tryz.func71, Tryz.ntmps71
    go_wp2_with fail
    refine HH.out.mono ?_
    rintro e w1 ⟨rfl, rfl⟩
    generalize hW : w.alloc (stB 6 i b c v) = W at *
    go_wp2_with fail
    go_region
    go_wp2
    go_ret
    exact HE.out _ (below_drew _)

set_option maxRecDepth 100000 in
set_option maxHeartbeats 4000000 in
theorem rgCopy (r : Rg w g S G) : Calls Tryz.prog 71 #[.pointer (some ⟨g, 0, none⟩), sgV 7 a b c v] w fun e w' => ChR w g S G 7 a b c v e w' := by
  have al : Below w.heap.size w (w.alloc (stB 7 a b c v)) := (Below.refl _ _).alloc (Nat.le_refl _) _
  have HH := Lib.hid (rgHas_any _ g S G a (r.keep al))
  have HB := Lib.hid (rgHas_any _ g S G b (r.keep al))
  cases hb : G.has a
  · rw [hb] at HH
    have HE := Lib.hid (chR_err (k := 7) (a := a) (b := b) (c := c) (v := v) (x := 3) r al (by simp [Gr.change, hb]))
    clear r hb al HB
    go_enter Tryz.func71, Tryz.ntmps71
    go_wp2_with fail
    refine HH.out.mono ?_
    rintro e w1 ⟨rfl, rfl⟩
    go_wp2
    go_ret
    exact HE.out
  · rw [hb] at HH
    cases hd : G.has b
    · rw [hd] at HB
      have HE := Lib.hid (chR_err (k := 7) (a := a) (b := b) (c := c) (v := v) (x := 3) r al (by simp [Gr.change, hb, hd]))
      clear r hb hd al
      go_enter Tryz.func71, Tryz.ntmps71
      go_wp2_with fail
      refine HH.out.mono ?_
      rintro e w1 ⟨rfl, rfl⟩
      go_wp2_with fail
      refine HB.out.mono ?_
      rintro e w1 ⟨rfl, rfl⟩
      go_wp2
      go_ret
      exact HE.out
    · rw [hd] at HB
      obtain ⟨i, x, rfl, hl, hx, hv, x0, x1⟩ := r.at_ hb
      obtain ⟨j, y, rfl, jl, hy, yv, y0, y1⟩ := r.at_ hd
      have ec : G.change 7 i j c v = (0, G.hold i y) := by simp [Gr.change, hb, hd, yv]
      obtain ⟨vN, hA, hc, nd, hi, eN, rfl⟩ := r
      have hk := hi.keep al
      obtain ⟨q, off, rfl, _, hcx, hfz⟩ := hk.hrow.at_ (by omega)
      have cx := hcx i x hx
      have cy := hcx j y hy
      have kb := Blk.new w #[.int .i64 7, .int .i64 i, .int .i64 j, .int .i64 c, .int .u64 v] 53
      have hf := hi.hfew
      obtain ⟨c0, c1, c2, cf⟩ := hk.four
      have HE := Lib.hid (fun (w' : World) (f : Below (w.alloc (stB 7 i j c v)).heap.size (w.alloc (stB 7 i j c v)) w') => (show ChR w g (gOwn g vN (some ⟨q, off, none⟩) nd) G 7 i j c v (.returned (.int .i64 0)) (w'.setCell ⟨q, off + i, none⟩ (.int .i64 y)) from by
        obtain ⟨h1, mv⟩ := (hk.keep f).hold i y y0 (by rw [eN, List.length_map] at y1; exact y1)
        unfold ChR
        rw [ec]
        exact ⟨rfl, _, ⟨vN, _, hc, nd, by unfold Gr.hold; rw [Int.toNat_natCast]; exact h1, eN, rfl⟩, Mv.pre (below_trans al f) mv⟩))
      have s1 := kb.cell 1
      have s2 := kb.cell 2
      have sf := kb.frozen
      clear hi hcx hv yv hx hy hb hd ec kb al x0 x1 y0 y1 eN c0 c2
      generalize G.hs.length = n at c1 hl jl hf
      go_enter Tryz.func71, Tryz.ntmps71
      go_wp2_with fail
      refine HH.out.mono ?_
      rintro e w1 ⟨rfl, rfl⟩
      go_wp2_with fail
      refine HB.out.mono ?_
      rintro e w1 ⟨rfl, rfl⟩
      generalize hW : w.alloc (stB 7 i j c v) = W at *
      go_wp2_with fail
      go_region
      go_wp2
      go_ret
      exact HE.out _ (below_drew _)

end

/-- A step's box, a node's copy, and the graph beside them. -/
structure Gx (w V : World) (g : Nat) (vN : Value) (hA : Option Addr) (hc : Nat) (nd : List Nd) (hs : List Int) (lg : Int) (sb nb : Nat) (k a b c v : Int) (z : Nd) : Prop where
  isg : IsG V g vN hA hc nd hs lg
  bel : Below w.heap.size w V
  st : Blk V sb #[.int .i64 k, .int .i64 a, .int .i64 b, .int .i64 c, .int .u64 v] 53
  nb : Blk V nb #[.slice (some ⟨z.pb, 0, none⟩) z.ps.length z.ps.length, .slice (some ⟨z.sb, 0, none⟩) z.ss.length z.ss.length] 120

theorem gx_make {w : World} {g : Nat} {vN : Value} {hA : Option Addr} {hc : Nat} {nd : List Nd} {hs : List Int} {lg : Int} (h : IsG w g vN hA hc nd hs lg) (k a b c v : Int) (z : Nd) :
    Gx w ((w.alloc (stB k a b c v)).alloc (.cells #[.slice (some ⟨z.pb, 0, none⟩) z.ps.length z.ps.length, .slice (some ⟨z.sb, 0, none⟩) z.ss.length z.ss.length] 120)).drew g vN hA hc nd hs lg w.heap.size (w.alloc (stB k a b c v)).heap.size k a b c v z := by
  have b1 : Below w.heap.size w (w.alloc (stB k a b c v)) := (Below.refl _ _).alloc (Nat.le_refl _) _
  have b2 := (Below.refl (w.alloc (stB k a b c v)).heap.size (w.alloc (stB k a b c v))).alloc (Nat.le_refl _) (.cells #[.slice (some ⟨z.pb, 0, none⟩) z.ps.length z.ps.length, .slice (some ⟨z.sb, 0, none⟩) z.ss.length z.ss.length] 120)
  have b3 := below_trans (below_trans b1 b2) (below_drew _)
  exact ⟨h.keep b3, b3, ((Blk.new w _ _).keep b2).drew, (Blk.new _ _ _).drew⟩

/-- A handle that holds an object. -/
theorem wrong_zero {G : Gr} {b : Int} (hw : G.wrong b = 0) : G.has b = true ∧ G.held b ≠ 0 := by
  unfold Gr.wrong at hw
  split at hw
  · rename_i hh
    refine ⟨hh, fun e => ?_⟩
    rw [if_pos e] at hw
    cases hw
  · cases hw

theorem two_set {nd : List Nd} {ns : List (List Int × List Int)} (e : ns = nd.map Nd.two) (i : Nat) (y : Nd) : ns.set i (y.ps, y.ss) = (nd.set i y).map Nd.two := by
  rw [e, List.map_set]; rfl
end Go.Proofs.YthmhehehomieiaaGreat

/- The statements' do: an entry of a script, by whatever the core's call comes to. -/
namespace Go.Proofs.YthmhehehomieiaaGreat
open Go.RowKit

/-- Where do stands ahead of the call: the entry and two answers lie in boxes. -/
abbrev doW (w : World) (k a b c v : Int) : World := ((w.alloc (stB k a b c v)).alloc anB).alloc anB
abbrev anL : Array Value := #[.int .i64 0, .bool false, .int .i64 0, .int .u64 0]

theorem doW_below (w : World) (k a b c v : Int) : Below w.heap.size w (doW w k a b c v) := (((Below.refl _ w).alloc (Nat.le_refl _) _).alloc (by simp) _).alloc (by simp; omega) _
theorem doW_size (w : World) (k a b c v : Int) : (doW w k a b c v).heap.size = w.heap.size + 3 := by simp
theorem doW_boxes (w : World) (k a b c v : Int) : Blk (doW w k a b c v) (w.heap.size + 1) anL 55 ∧ Blk (doW w k a b c v) (w.heap.size + 2) anL 55 :=
  ⟨by simpa using (Blk.new (w.alloc (stB k a b c v)) anL 55).alloc anB, by simpa using Blk.new ((w.alloc (stB k a b c v)).alloc anB) anL 55⟩

/-- The call leaves the answers' boxes as they are. -/
def Leaves (w : World) (R : World → Prop) : Prop := ∀ w', R w' → Blk w' (w.heap.size + 1) anL 55 ∧ Blk w' (w.heap.size + 2) anL 55

/-- What stands behind do: the answers' boxes have been written to since. -/
def DoE (w : World) (R : World → Prop) (w' : World) : Prop := ∃ w4, R w4 ∧ Frm (fun k => k = w.heap.size + 1 ∨ k = w.heap.size + 2) w4 w'

theorem Blk.four {w : World} {b : Nat} {t : TypeId} {v0 v1 v2 v3 : Value} (h : Blk w b #[v0, v1, v2, v3] t) :
    w.cell? ⟨b, 0, none⟩ = some v0 ∧ w.cell? ⟨b, 1, none⟩ = some v1 ∧ w.cell? ⟨b, 2, none⟩ = some v2 ∧ w.cell? ⟨b, 3, none⟩ = some v3 ∧ (∀ i, w.frozen? ⟨b, i, none⟩ = false) := ⟨h.cell 0, h.cell 1, h.cell 2, h.cell 3, h.frozen⟩

theorem frm_cell {T : Nat → Prop} {w w' : World} (f : Frm T w w') (b i : Nat) (hb : T b) (v : Value) : Frm T w (w'.setCell ⟨b, i, none⟩ v) := f.setCell (p := ⟨b, i, none⟩) (fun _ => hb) v

set_option maxHeartbeats 4000000 in
set_option maxRecDepth 100000 in
theorem do_Make {pv : Value} (a b c v : Int) (E : Int) (w : World) (R : World → Prop) (hl : Leaves w R)
    (H : Calls Tryz.prog 33 #[pv, .int .i64 a, .int .i64 b, .int .i64 c] (doW w 1 a b c v) fun e w' => e = .returned (.int .i64 E) ∧ R w') :
    Calls Tryz.prog 26 #[pv, sgV 1 a b c v] w fun e w' => e = .returned (anV E false 0 0) ∧ DoE w R w' := by
  have H := Lib.hid H
  have HL := Lib.hid hl
  clear hl
  go_enter Tryz.func26, Tryz.ntmps26
  go_wp2_with fail
  refine H.out.mono ?_
  rintro e w4 ⟨rfl, r⟩
  have x := HL.out _ r
  obtain ⟨c0, c1, c2, c3, cf⟩ := x.1.four
  obtain ⟨d0, d1, d2, d3, df⟩ := x.2.four
  have HR := Lib.hid r
  have HX := Lib.hid x
  clear r x H HL
  go_wp2
  refine bodyPost_ret (v := anV E false 0 0) (by simp [results, Tryz.results26, go_sem, c0, c1, c2, c3]) rfl ⟨rfl, _, HR.out, ?_⟩
  refine frm_cell (frm_cell (frm_cell (frm_cell ?_ _ _ (.inl rfl) _) _ _ (.inl rfl) _) _ _ (.inl rfl) _) _ _ (.inl rfl) _
  exact frm_cell (Frm.refl _ _) _ _ (.inr rfl) _

set_option maxHeartbeats 4000000 in
set_option maxRecDepth 100000 in
theorem do_Get {pv : Value} (a b c v : Int) (E : Int) (w : World) (R : World → Prop) (hl : Leaves w R)
    (H : Calls Tryz.prog 35 #[pv, .int .i64 a, .int .i64 b, .int .i64 c] (doW w 2 a b c v) fun e w' => e = .returned (.int .i64 E) ∧ R w') :
    Calls Tryz.prog 26 #[pv, sgV 2 a b c v] w fun e w' => e = .returned (anV E false 0 0) ∧ DoE w R w' := by
  have H := Lib.hid H
  have HL := Lib.hid hl
  clear hl
  go_enter Tryz.func26, Tryz.ntmps26
  go_wp2_with fail
  refine H.out.mono ?_
  rintro e w4 ⟨rfl, r⟩
  have x := HL.out _ r
  obtain ⟨c0, c1, c2, c3, cf⟩ := x.1.four
  obtain ⟨d0, d1, d2, d3, df⟩ := x.2.four
  have HR := Lib.hid r
  have HX := Lib.hid x
  clear r x H HL
  go_wp2
  refine bodyPost_ret (v := anV E false 0 0) (by simp [results, Tryz.results26, go_sem, c0, c1, c2, c3]) rfl ⟨rfl, _, HR.out, ?_⟩
  refine frm_cell (frm_cell (frm_cell (frm_cell ?_ _ _ (.inl rfl) _) _ _ (.inl rfl) _) _ _ (.inl rfl) _) _ _ (.inl rfl) _
  exact frm_cell (Frm.refl _ _) _ _ (.inr rfl) _

set_option maxHeartbeats 4000000 in
set_option maxRecDepth 100000 in
theorem do_Set {pv : Value} (a b c v : Int) (E : Int) (w : World) (R : World → Prop) (hl : Leaves w R)
    (H : Calls Tryz.prog 41 #[pv, .int .i64 a, .int .i64 b, .int .i64 c] (doW w 3 a b c v) fun e w' => e = .returned (.int .i64 E) ∧ R w') :
    Calls Tryz.prog 26 #[pv, sgV 3 a b c v] w fun e w' => e = .returned (anV E false 0 0) ∧ DoE w R w' := by
  have H := Lib.hid H
  have HL := Lib.hid hl
  clear hl
  go_enter Tryz.func26, Tryz.ntmps26
  go_wp2_with fail
  refine H.out.mono ?_
  rintro e w4 ⟨rfl, r⟩
  have x := HL.out _ r
  obtain ⟨c0, c1, c2, c3, cf⟩ := x.1.four
  obtain ⟨d0, d1, d2, d3, df⟩ := x.2.four
  have HR := Lib.hid r
  have HX := Lib.hid x
  clear r x H HL
  go_wp2
  refine bodyPost_ret (v := anV E false 0 0) (by simp [results, Tryz.results26, go_sem, c0, c1, c2, c3]) rfl ⟨rfl, _, HR.out, ?_⟩
  refine frm_cell (frm_cell (frm_cell (frm_cell ?_ _ _ (.inl rfl) _) _ _ (.inl rfl) _) _ _ (.inl rfl) _) _ _ (.inl rfl) _
  exact frm_cell (Frm.refl _ _) _ _ (.inr rfl) _

set_option maxHeartbeats 4000000 in
set_option maxRecDepth 100000 in
theorem do_Write {pv : Value} (a b c v : Int) (E : Int) (w : World) (R : World → Prop) (hl : Leaves w R)
    (H : Calls Tryz.prog 40 #[pv, .int .i64 a, .int .i64 b, .int .u64 v] (doW w 5 a b c v) fun e w' => e = .returned (.int .i64 E) ∧ R w') :
    Calls Tryz.prog 26 #[pv, sgV 5 a b c v] w fun e w' => e = .returned (anV E false 0 0) ∧ DoE w R w' := by
  have H := Lib.hid H
  have HL := Lib.hid hl
  clear hl
  go_enter Tryz.func26, Tryz.ntmps26
  go_wp2_with fail
  refine H.out.mono ?_
  rintro e w4 ⟨rfl, r⟩
  have x := HL.out _ r
  obtain ⟨c0, c1, c2, c3, cf⟩ := x.1.four
  obtain ⟨d0, d1, d2, d3, df⟩ := x.2.four
  have HR := Lib.hid r
  have HX := Lib.hid x
  clear r x H HL
  go_wp2
  refine bodyPost_ret (v := anV E false 0 0) (by simp [results, Tryz.results26, go_sem, c0, c1, c2, c3]) rfl ⟨rfl, _, HR.out, ?_⟩
  refine frm_cell (frm_cell (frm_cell (frm_cell ?_ _ _ (.inl rfl) _) _ _ (.inl rfl) _) _ _ (.inl rfl) _) _ _ (.inl rfl) _
  exact frm_cell (Frm.refl _ _) _ _ (.inr rfl) _

set_option maxHeartbeats 4000000 in
set_option maxRecDepth 100000 in
theorem do_Clear {pv : Value} (a b c v : Int) (E : Int) (w : World) (R : World → Prop) (hl : Leaves w R)
    (H : Calls Tryz.prog 44 #[pv, .int .i64 a] (doW w 6 a b c v) fun e w' => e = .returned (.int .i64 E) ∧ R w') :
    Calls Tryz.prog 26 #[pv, sgV 6 a b c v] w fun e w' => e = .returned (anV E false 0 0) ∧ DoE w R w' := by
  have H := Lib.hid H
  have HL := Lib.hid hl
  clear hl
  go_enter Tryz.func26, Tryz.ntmps26
  go_wp2_with fail
  refine H.out.mono ?_
  rintro e w4 ⟨rfl, r⟩
  have x := HL.out _ r
  obtain ⟨c0, c1, c2, c3, cf⟩ := x.1.four
  obtain ⟨d0, d1, d2, d3, df⟩ := x.2.four
  have HR := Lib.hid r
  have HX := Lib.hid x
  clear r x H HL
  go_wp2
  refine bodyPost_ret (v := anV E false 0 0) (by simp [results, Tryz.results26, go_sem, c0, c1, c2, c3]) rfl ⟨rfl, _, HR.out, ?_⟩
  refine frm_cell (frm_cell (frm_cell (frm_cell ?_ _ _ (.inl rfl) _) _ _ (.inl rfl) _) _ _ (.inl rfl) _) _ _ (.inl rfl) _
  exact frm_cell (Frm.refl _ _) _ _ (.inr rfl) _

set_option maxHeartbeats 4000000 in
set_option maxRecDepth 100000 in
theorem do_Copy {pv : Value} (a b c v : Int) (E : Int) (w : World) (R : World → Prop) (hl : Leaves w R)
    (H : Calls Tryz.prog 42 #[pv, .int .i64 a, .int .i64 b] (doW w 7 a b c v) fun e w' => e = .returned (.int .i64 E) ∧ R w') :
    Calls Tryz.prog 26 #[pv, sgV 7 a b c v] w fun e w' => e = .returned (anV E false 0 0) ∧ DoE w R w' := by
  have H := Lib.hid H
  have HL := Lib.hid hl
  clear hl
  go_enter Tryz.func26, Tryz.ntmps26
  go_wp2_with fail
  refine H.out.mono ?_
  rintro e w4 ⟨rfl, r⟩
  have x := HL.out _ r
  obtain ⟨c0, c1, c2, c3, cf⟩ := x.1.four
  obtain ⟨d0, d1, d2, d3, df⟩ := x.2.four
  have HR := Lib.hid r
  have HX := Lib.hid x
  clear r x H HL
  go_wp2
  refine bodyPost_ret (v := anV E false 0 0) (by simp [results, Tryz.results26, go_sem, c0, c1, c2, c3]) rfl ⟨rfl, _, HR.out, ?_⟩
  refine frm_cell (frm_cell (frm_cell (frm_cell ?_ _ _ (.inl rfl) _) _ _ (.inl rfl) _) _ _ (.inl rfl) _) _ _ (.inl rfl) _
  exact frm_cell (Frm.refl _ _) _ _ (.inr rfl) _

set_option maxHeartbeats 4000000 in
set_option maxRecDepth 100000 in
theorem do_Read {pv : Value} (a b c v : Int) (E V : Int) (w : World) (R : World → Prop) (hl : Leaves w R)
    (H : Calls Tryz.prog 37 #[pv, .int .i64 a, .int .i64 b] (doW w 4 a b c v) fun e w' => e = .returned (.tuple #[.int .u64 V, .int .i64 E]) ∧ R w') :
    Calls Tryz.prog 26 #[pv, sgV 4 a b c v] w fun e w' => e = .returned (anV E false 0 V) ∧ DoE w R w' := by
  have H := Lib.hid H
  have HL := Lib.hid hl
  clear hl
  go_enter Tryz.func26, Tryz.ntmps26
  go_wp2_with fail
  refine H.out.mono ?_
  rintro e w4 ⟨rfl, r⟩
  have x := HL.out _ r
  obtain ⟨c0, c1, c2, c3, cf⟩ := x.1.four
  obtain ⟨d0, d1, d2, d3, df⟩ := x.2.four
  have HR := Lib.hid r
  have HX := Lib.hid x
  clear r x H HL
  go_wp2
  refine bodyPost_ret (v := anV E false 0 V) (by simp [results, Tryz.results26, go_sem, c0, c1, c2, c3]) rfl ⟨rfl, _, HR.out, ?_⟩
  refine frm_cell (frm_cell (frm_cell (frm_cell ?_ _ _ (.inl rfl) _) _ _ (.inl rfl) _) _ _ (.inl rfl) _) _ _ (.inl rfl) _
  exact frm_cell (frm_cell (Frm.refl _ _) _ _ (.inr rfl) _) _ _ (.inr rfl) _

set_option maxHeartbeats 4000000 in
set_option maxRecDepth 100000 in
theorem do_Same {pv : Value} (a b c v : Int) (E : Int) (y : Bool) (w : World) (R : World → Prop) (hl : Leaves w R)
    (H : Calls Tryz.prog 43 #[pv, .int .i64 a, .int .i64 b] (doW w 8 a b c v) fun e w' => e = .returned (.tuple #[.bool y, .int .i64 E]) ∧ R w') :
    Calls Tryz.prog 26 #[pv, sgV 8 a b c v] w fun e w' => e = .returned (anV E y 0 0) ∧ DoE w R w' := by
  have H := Lib.hid H
  have HL := Lib.hid hl
  clear hl
  go_enter Tryz.func26, Tryz.ntmps26
  go_wp2_with fail
  refine H.out.mono ?_
  rintro e w4 ⟨rfl, r⟩
  have x := HL.out _ r
  obtain ⟨c0, c1, c2, c3, cf⟩ := x.1.four
  obtain ⟨d0, d1, d2, d3, df⟩ := x.2.four
  have HR := Lib.hid r
  have HX := Lib.hid x
  clear r x H HL
  go_wp2
  refine bodyPost_ret (v := anV E y 0 0) (by simp [results, Tryz.results26, go_sem, c0, c1, c2, c3]) rfl ⟨rfl, _, HR.out, ?_⟩
  refine frm_cell (frm_cell (frm_cell (frm_cell ?_ _ _ (.inl rfl) _) _ _ (.inl rfl) _) _ _ (.inl rfl) _) _ _ (.inl rfl) _
  exact frm_cell (frm_cell (Frm.refl _ _) _ _ (.inr rfl) _) _ _ (.inr rfl) _

set_option maxHeartbeats 4000000 in
set_option maxRecDepth 100000 in
theorem do_Nil {pv : Value} (a b c v : Int) (E : Int) (y : Bool) (w : World) (R : World → Prop) (hl : Leaves w R)
    (H : Calls Tryz.prog 36 #[pv, .int .i64 a] (doW w 9 a b c v) fun e w' => e = .returned (.tuple #[.bool y, .int .i64 E]) ∧ R w') :
    Calls Tryz.prog 26 #[pv, sgV 9 a b c v] w fun e w' => e = .returned (anV E y 0 0) ∧ DoE w R w' := by
  have H := Lib.hid H
  have HL := Lib.hid hl
  clear hl
  go_enter Tryz.func26, Tryz.ntmps26
  go_wp2_with fail
  refine H.out.mono ?_
  rintro e w4 ⟨rfl, r⟩
  have x := HL.out _ r
  obtain ⟨c0, c1, c2, c3, cf⟩ := x.1.four
  obtain ⟨d0, d1, d2, d3, df⟩ := x.2.four
  have HR := Lib.hid r
  have HX := Lib.hid x
  clear r x H HL
  go_wp2
  refine bodyPost_ret (v := anV E y 0 0) (by simp [results, Tryz.results26, go_sem, c0, c1, c2, c3]) rfl ⟨rfl, _, HR.out, ?_⟩
  refine frm_cell (frm_cell (frm_cell (frm_cell ?_ _ _ (.inl rfl) _) _ _ (.inl rfl) _) _ _ (.inl rfl) _) _ _ (.inl rfl) _
  exact frm_cell (frm_cell (Frm.refl _ _) _ _ (.inr rfl) _) _ _ (.inr rfl) _

set_option maxHeartbeats 4000000 in
set_option maxRecDepth 100000 in
theorem do_Shape {pv : Value} (a b c v : Int) (E p q : Int) (q0 : 0 ≤ q) (q1 : q ≤ 100000) (w : World) (R : World → Prop) (hl : Leaves w R)
    (H : Calls Tryz.prog 34 #[pv, .int .i64 a] (doW w 10 a b c v) fun e w' => e = .returned (.tuple #[.int .i64 p, .int .i64 q, .int .i64 E]) ∧ R w') :
    Calls Tryz.prog 26 #[pv, sgV 10 a b c v] w fun e w' => e = .returned (anV E false p q) ∧ DoE w R w' := by
  have H := Lib.hid H
  have HL := Lib.hid hl
  clear hl
  have hw : IntKind.u64.wrap q = q := by unfold IntKind.wrap IntKind.bits; simp; omega
  go_enter Tryz.func26, Tryz.ntmps26
  go_wp2_with fail
  refine H.out.mono ?_
  rintro e w4 ⟨rfl, r⟩
  have x := HL.out _ r
  obtain ⟨c0, c1, c2, c3, cf⟩ := x.1.four
  obtain ⟨d0, d1, d2, d3, df⟩ := x.2.four
  have HR := Lib.hid r
  have HX := Lib.hid x
  clear r x H HL
  go_wp2
  refine bodyPost_ret (v := anV E false p q) (by simp [results, Tryz.results26, go_sem, c0, c1, c2, c3]) rfl ⟨rfl, _, HR.out, ?_⟩
  refine frm_cell (frm_cell (frm_cell (frm_cell ?_ _ _ (.inl rfl) _) _ _ (.inl rfl) _) _ _ (.inl rfl) _) _ _ (.inl rfl) _
  exact frm_cell (frm_cell (frm_cell (Frm.refl _ _) _ _ (.inr rfl) _) _ _ (.inr rfl) _) _ _ (.inr rfl) _

set_option maxHeartbeats 4000000 in
set_option maxRecDepth 100000 in
theorem do_other {pv : Value} (k a b c v : Int) (hk : k < 1 ∨ 10 < k) (w : World) :
    Calls Tryz.prog 26 #[pv, sgV k a b c v] w fun e w' => e = .returned (anV 0 false 0 0) ∧ Below w.heap.size w w' := by
  have k1 : ¬ k = 1 := by omega
  have k2 : ¬ k = 2 := by omega
  have k3 : ¬ k = 3 := by omega
  have k4 : ¬ k = 4 := by omega
  have k5 : ¬ k = 5 := by omega
  have k6 : ¬ k = 6 := by omega
  have k7 : ¬ k = 7 := by omega
  have k8 : ¬ k = 8 := by omega
  have k9 : ¬ k = 9 := by omega
  have k10 : ¬ k = 10 := by omega
  have BW := Lib.hid (doW_below w k a b c v)
  clear hk
  go_enter Tryz.func26, Tryz.ntmps26
  go_wp2
  exact bodyPost_ret (v := anV 0 false 0 0) (by simp [results, Tryz.results26, go_sem]) rfl ⟨rfl, BW.out⟩

end Go.Proofs.YthmhehehomieiaaGreat

/- An entry of a script, done by a core: what it answers, and which graph the core holds then. -/
namespace Go.Proofs.YthmhehehomieiaaGreat
open Go.RowKit

/-- What an entry is answered, and which graph there is behind it. -/
def doA (nu : Int) (G : Gr) (k a p q v : Int) : Int × Bool × Int × Int :=
  if k = 1 ∨ k = 2 ∨ k = 3 ∨ k = 5 ∨ k = 6 ∨ k = 7 then (stE nu G k a p q v, false, 0, 0)
  else if k = 4 ∨ k = 8 ∨ k = 9 ∨ k = 10 then G.ask k a p else (0, false, 0, 0)
def doG (nu : Int) (G : Gr) (k a p q v : Int) : Gr :=
  if k = 1 ∨ k = 2 ∨ k = 3 ∨ k = 5 ∨ k = 6 ∨ k = 7 then stG nu G k a p q v else G

abbrev anOf (x : Int × Bool × Int × Int) : Value := anV x.1 x.2.1 x.2.2.1 x.2.2.2

/-- Behind an entry: with an error the core holds what it held. -/
def KzP (w0 : World) (b : Nat) (s : Co) (G' : Gr) (E : Int) (Z : Nat → Prop) (w' : World) : Prop := ∃ s', Kz w0 w' Z b s' G' ∧ s'.cf = s.cf ∧ (E ≠ 0 → s' = s)

section
variable {w0 w w' : World} {Z : Nat → Prop} {b : Nat} {s : Co} {G G' : Gr} {k a p q v : Int}

theorem kz_do_of {P : Program} {m d : FuncId} {args dargs : Array Value} {M Eo : Ending → Prop} {E : Int} (h : Kz w0 w Z b s G)
    (D : ∀ R, Leaves w R → (Calls P m args (doW w k a p q v) fun e w' => M e ∧ R w') → Calls P d dargs w fun e w' => Eo e ∧ DoE w R w')
    (c : ∀ S, Cr (doW w k a p q v) b S s → Calls P m args (doW w k a p q v) fun e w' => M e ∧ Act13 (doW w k a p q v) b S s E G' w') :
    Calls P d dargs w fun e w' => Eo e ∧ KzP w0 b s G' E Z w' ∧ Kp Z w w' := by
  have bw := doW_below w k a p q v
  have hs := doW_size w k a p q v
  obtain ⟨x1, x2⟩ := doW_boxes w k a p q v
  have h1 : Kz w0 (doW w k a p q v) (fun j => Z j ∨ j = w.heap.size + 1 ∨ j = w.heap.size + 2) b s G := h.grow bw fun j hj => hj.imp id fun e => by rw [hs]; omega
  have hc := h1.act c
  generalize doW w k a p q v = W at *
  refine (D (fun w' => ∃ s', Kz w0 w' (fun j => Z j ∨ j = w.heap.size + 1 ∨ j = w.heap.size + 2) b s' G' ∧ Kp (fun j => Z j ∨ j = w.heap.size + 1 ∨ j = w.heap.size + 2) W w' ∧ s'.cf = s.cf ∧ (E ≠ 0 → s' = s))
    (fun w' hw => ?_) hc).mono fun e w' ⟨he, w4, hw, f⟩ => ?_
  · obtain ⟨s', _, kp, _⟩ := hw
    exact ⟨x1.kp kp (.inr (.inl rfl)), x2.kp kp (.inr (.inr rfl))⟩
  · obtain ⟨s', k', kp, e1, e2⟩ := hw
    refine ⟨he, ⟨s', k'.write f (fun j _ hj => .inr hj) (fun j hj => .inl (.inl hj)), e1, e2⟩, ?_⟩
    have q1 : Kp Z W w4 := kp.mono fun j _ hn hz => hn (.inl hz)
    have q2 : Kp Z w4 w' := f.mono fun j _ hj hz => by have := (h.low j hz).2; omega
    exact Kp.trans (Kp.of_below bw) (Kp.trans q1 q2)

/-- An entry. -/
theorem kz_do (h : Kz w0 w Z b s G) (k a p q v : Int) (q1 : q ≤ 9223372036854775807) :
    Calls Tryz.prog 26 #[ptr b, sgV k a p q v] w fun e w' => e = .returned (anOf (doA s.cf.nu G k a p q v)) ∧ KzP w0 b s (doG s.cf.nu G k a p q v) (doA s.cf.nu G k a p q v).1 Z w' ∧ Kp Z w w' := by
  by_cases hk : k < 1 ∨ 10 < k
  · have hA : doA s.cf.nu G k a p q v = (0, false, 0, 0) := by unfold doA; rw [if_neg (by omega), if_neg (by omega)]
    have hG : doG s.cf.nu G k a p q v = G := by unfold doG; rw [if_neg (by omega)]
    rw [hA, hG]
    exact (do_other k a p q v hk w).mono fun _ _ ⟨he, hb⟩ => ⟨he, ⟨s, h.keep hb, rfl, fun _ => rfl⟩, Kp.of_below hb⟩
  · have hk : k = 1 ∨ k = 2 ∨ k = 3 ∨ k = 4 ∨ k = 5 ∨ k = 6 ∨ k = 7 ∨ k = 8 ∨ k = 9 ∨ k = 10 := by omega
    rcases hk with rfl | rfl | rfl | rfl | rfl | rfl | rfl | rfl | rfl | rfl
    · have hA : doA s.cf.nu G 1 a p q v = (stE s.cf.nu G 1 a p q v, false, 0, 0) := rfl
      have hG : doG s.cf.nu G 1 a p q v = stG s.cf.nu G 1 a p q v := rfl
      rw [hA, hG]
      exact kz_do_of h (fun R hl H => do_Make a p q v _ w R hl H) fun S hC => make_rep hC h.rep a p q v q1
    · have hA : doA s.cf.nu G 2 a p q v = ((G.change 2 a p q v).1, false, 0, 0) := by rw [← stE_other (nu := s.cf.nu) (by omega)]; rfl
      have hG : doG s.cf.nu G 2 a p q v = (G.change 2 a p q v).2 := by rw [← stG_other (nu := s.cf.nu) (by omega)]; rfl
      rw [hA, hG]
      exact kz_do_of h (fun R hl H => do_Get a p q v _ w R hl H) fun S hC => get_rep hC h.rep a p q v
    · have hA : doA s.cf.nu G 3 a p q v = ((G.change 3 a p q v).1, false, 0, 0) := by rw [← stE_other (nu := s.cf.nu) (by omega)]; rfl
      have hG : doG s.cf.nu G 3 a p q v = (G.change 3 a p q v).2 := by rw [← stG_other (nu := s.cf.nu) (by omega)]; rfl
      rw [hA, hG]
      exact kz_do_of h (fun R hl H => do_Set a p q v _ w R hl H) fun S hC => set_rep hC h.rep a p q v
    · have hA : doA s.cf.nu G 4 a p q v = G.ask 4 a p := rfl
      have hG : doG s.cf.nu G 4 a p q v = G := rfl
      rw [hA, hG]
      have ha : (G.ask 4 a p).2.1 = false ∧ (G.ask 4 a p).2.2.1 = 0 := by
        unfold Gr.ask
        rw [if_pos rfl]
        split
        · split <;> exact ⟨rfl, rfl⟩
        · exact ⟨rfl, rfl⟩
      have := kz_do_of (E := (G.ask 4 a p).1) h (fun R hl H => do_Read a p q v (G.ask 4 a p).1 (G.ask 4 a p).2.2.2 w R hl H) fun S hC => (read_rep hC h.rep a p).mono fun _ _ ⟨h1, _, _, h2⟩ => ⟨h1, .same h.rep h2 _⟩
      unfold anOf
      rw [ha.1, ha.2]
      exact this
    · have hA : doA s.cf.nu G 5 a p q v = ((G.change 5 a p q v).1, false, 0, 0) := by rw [← stE_other (nu := s.cf.nu) (by omega)]; rfl
      have hG : doG s.cf.nu G 5 a p q v = (G.change 5 a p q v).2 := by rw [← stG_other (nu := s.cf.nu) (by omega)]; rfl
      rw [hA, hG]
      exact kz_do_of h (fun R hl H => do_Write a p q v _ w R hl H) fun S hC => write_rep hC h.rep a p q v
    · have hA : doA s.cf.nu G 6 a p q v = ((G.change 6 a p q v).1, false, 0, 0) := by rw [← stE_other (nu := s.cf.nu) (by omega)]; rfl
      have hG : doG s.cf.nu G 6 a p q v = (G.change 6 a p q v).2 := by rw [← stG_other (nu := s.cf.nu) (by omega)]; rfl
      rw [hA, hG]
      exact kz_do_of h (fun R hl H => do_Clear a p q v _ w R hl H) fun S hC => clear_rep hC h.rep a p q v
    · have hA : doA s.cf.nu G 7 a p q v = ((G.change 7 a p q v).1, false, 0, 0) := by rw [← stE_other (nu := s.cf.nu) (by omega)]; rfl
      have hG : doG s.cf.nu G 7 a p q v = (G.change 7 a p q v).2 := by rw [← stG_other (nu := s.cf.nu) (by omega)]; rfl
      rw [hA, hG]
      exact kz_do_of h (fun R hl H => do_Copy a p q v _ w R hl H) fun S hC => coCopy_rep hC h.rep a p q v
    · have hA : doA s.cf.nu G 8 a p q v = G.ask 8 a p := rfl
      have hG : doG s.cf.nu G 8 a p q v = G := rfl
      rw [hA, hG]
      have ha : (G.ask 8 a p).2.2 = (0, 0) := by
        unfold Gr.ask
        rw [if_neg (by omega), if_neg (by omega), if_pos rfl]
        split <;> rfl
      have := kz_do_of (E := (G.ask 8 a p).1) h (fun R hl H => do_Same a p q v (G.ask 8 a p).1 (G.ask 8 a p).2.1 w R hl H) fun S hC => (same_rep hC h.rep a p).mono fun _ _ ⟨h1, _, h2⟩ => ⟨h1, by subst h2; exact .same h.rep hC.same _⟩
      unfold anOf
      rw [ha]
      exact this
    · have hA : doA s.cf.nu G 9 a p q v = G.ask 9 a p := rfl
      have hG : doG s.cf.nu G 9 a p q v = G := rfl
      rw [hA, hG]
      have ha : (G.ask 9 a p).2.2 = (0, 0) := by
        unfold Gr.ask
        rw [if_neg (by omega), if_neg (by omega), if_neg (by omega), if_pos rfl]
        split <;> rfl
      have := kz_do_of (E := (G.ask 9 a p).1) h (fun R hl H => do_Nil a p q v (G.ask 9 a p).1 (G.ask 9 a p).2.1 w R hl H) fun S hC => (nil_rep hC h.rep a p).mono fun _ _ ⟨h1, _, h2⟩ => ⟨h1, by subst h2; exact .same h.rep hC.same _⟩
      unfold anOf
      rw [ha]
      exact this
    · have hA : doA s.cf.nu G 10 a p q v = G.ask 10 a p := rfl
      have hG : doG s.cf.nu G 10 a p q v = G := rfl
      rw [hA, hG]
      have ha : (G.ask 10 a p).2.1 = false ∧ 0 ≤ (G.ask 10 a p).2.2.2 ∧ (G.ask 10 a p).2.2.2 ≤ 100000 := by
        unfold Gr.ask
        rw [if_neg (by omega), if_pos rfl]
        by_cases kk : G.wrong a = 0
        · rw [if_pos kk]
          obtain ⟨e, z⟩ := Gr.wrong_zero kk
          have := h.rep.small _ (h.rep.mem e z)
          refine ⟨rfl, ?_, ?_⟩ <;> simp only <;> omega
        · rw [if_neg kk]; exact ⟨rfl, by simp, by simp⟩
      have := kz_do_of (E := (G.ask 10 a p).1) h (fun R hl H => do_Shape a p q v (G.ask 10 a p).1 (G.ask 10 a p).2.2.1 (G.ask 10 a p).2.2.2 ha.2.1 ha.2.2 w R hl H) fun S hC => (shape_rep hC h.rep a p).mono fun _ _ ⟨h1, _, h2⟩ => ⟨h1, .same h.rep h2 _⟩
      unfold anOf
      rw [ha.1]
      exact this

theorem kg_do {c : Cfg} (h : Kg w0 w Z b c G) (k a p q v : Int) (q1 : q ≤ 9223372036854775807) :
    Calls Tryz.prog 26 #[ptr b, sgV k a p q v] w fun e w' => e = .returned (anOf (doA c.nu G k a p q v)) ∧ Kg w0 w' Z b c (doG c.nu G k a p q v) ∧ Kp Z w w' := by
  obtain ⟨s, kz, rfl⟩ := h
  exact (kz_do kz k a p q v q1).mono fun _ _ ⟨he, ⟨s', k', e1, _⟩, kp⟩ => ⟨he, ⟨s', k', e1⟩, kp⟩
end
end Go.Proofs.YthmhehehomieiaaGreat

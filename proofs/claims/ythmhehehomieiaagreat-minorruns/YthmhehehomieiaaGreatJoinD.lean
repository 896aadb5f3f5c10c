/- Texts of the layers below, joined: MnC GcL GuA MnD MnE GcM GcN GuB MdQ MdR GcO GcP GcQ GcR GcS GcT GcU GcV GuC GcW GcX GcY CoF CoG CoH. -/
import Derived.Test.YthmhehehomieiaaGreatJoinC
import Derived.StillTailTactics
import Derived.StillTail
import Derived.Deep.Quiet
import Derived.BigQuiet
import Derived.Deep.RegionHeld3

/- Contract of the core's Move. -/
namespace Go.Proofs.YthmhehehomieiaaGreat
open Go.RowKit

section
variable {w : World} {b : Nat} {S : Nat → Prop} {s : Co}

set_option maxHeartbeats 2000000 in
/-- Move of what has left already. -/
theorem move_gone (hC : Cr w b S s) (x z p g y v : Int) (f1 f2 f3 : Bool) (x0 : 0 < x) (x1 : x ≤ 9223372036854775807) (hx : inH (hAt s.cf.nu 1 (!s.yn)) s.yv x = true) (hw : s.ws[x.toNat]? = some (wordI z p g y f1 f2 f3)) (hg : goodB z p g y = true)
    (v0 : 0 ≤ v) (v1 : v ≤ 1048576) (hv : s.ws[x.toNat + 1]? = some v) (hb : s.wi[x.toNat]? = some false) (hn : v ≠ x) :
    Calls Tryz.prog 32 #[ptr b, .int .i64 x] w fun e w' => e = .returned (.int .i64 v) ∧ CoR w b S s w' := by
  have H := Lib.hid (leaving_yes hC x z p g y v f1 f2 f3 x0 x1 hx hw hg v0 v1 hv hb)
  clear hC hx hw hg hv hb
  go_enter Tryz.func32, Tryz.ntmps32
  go_wp2_with fail
  refine H.out.mono ?_
  rintro e w1 ⟨rfl, r1⟩
  have R1 := Lib.hid (r1.post ((Below.refl _ w1).alloc (Nat.le_refl _) (.cells #[.int .i64 z, .int .i64 p, .int .i64 g, .int .i64 y, .bool f1, .bool f2, .bool f3] 93)))
  clear r1 H
  go_wp2
  go_ret
  exact ⟨rfl, R1.out⟩

/-- The head of what has moved. -/
def Co.agesY (s : Co) (y : Int) : Int := if s.ph = 1 then y else s.par
def Co.agesG (s : Co) (f : Bool) : Bool := if s.ph = 1 then f else false
def ageI (g : Int) : Int := if g + 1 ≤ 7 then g + 1 else 7

theorem older_any (hC : Cr w b S s) (z p g y : Int) (f1 f2 f3 : Bool) (g0 : 0 ≤ g) (g1 : g ≤ 7) :
    Calls Tryz.prog 81 #[ptr b, hdV z p g y f1 f2 f3] w fun e w' => e = .returned (hdV z p (ageI g) (s.agesY y) (s.agesG f1) f2 f3) ∧ Below w.heap.size w w' := by
  unfold ageI Co.agesY Co.agesG
  by_cases h : s.ph = 1
  · rw [if_pos h, if_pos h]; exact older_yes hC z p g y f1 f2 f3 g0 g1 h
  · rw [if_neg h, if_neg h]; exact older_no hC z p g y f1 f2 f3 g0 g1 h

def Co.aged (s : Co) (q x : Int) : Co := (s.rowed (s.row ++ [q])).prom x

/-- One cell of the core turns on the way. -/
theorem Cw.one {w0 w w' : World} {S0 Z : Nat → Prop} {b : Nat} {s s' : Co} (h : Cw w0 w S0 Z b s) (c : ∀ S, Cr w b S s → CoR w b S s' w') : Cw w0 w' S0 Z b s' ∧ Kp Z w w' := by
  obtain ⟨S, k, m, z⟩ := h.is
  exact h.after m z (c S k)

/-- An object is moved. -/
theorem omove_co (hC : Cr w b S s) (fr dst z p g y : Int) (f1 f2 f3 : Bool) (hg : goodB z p g y = true) (a0 : 0 ≤ fr) (a1 : fr + (z + 2) ≤ s.ws.length) (b0 : 0 ≤ dst) (b1 : dst + (z + 2) ≤ s.ws.length) :
    ∃ a : Nat, w.cell? ⟨b, 13, Option.none⟩ = some (arP a) ∧ Calls Tryz.prog 84 #[arP a, .int .i64 fr, .int .i64 dst, hdV z p g y f1 f2 f3] w fun e w' => e = .returned (.int .i64 0) ∧ CoR w b S (s.wrote (movedW s.ws fr dst z (wordI z p g y f1 f2 f3))) w' := by
  obtain ⟨P, own, h0, rfl, rfl⟩ := hC
  obtain ⟨ab, ha, oa, ob⟩ := h0.prt 1
  refine ⟨P.a, h0.cell 13, (move_yes _ _ _ _ ha h0.wl fr dst z p g y f1 f2 f3 hg ⟨a0, a1⟩ ⟨b0, b1⟩).mono ?_⟩
  rintro e w1 ⟨rfl, n1⟩
  have z0 : 0 ≤ z := ((goodB_iff ..).1 hg).1
  exact ⟨rfl, h0.arena oa ob n1 (by unfold movedW; rw [List.length_set, List.length_set, List.length_set, splice_len2 _ z0 ⟨a0, a1⟩ ⟨b0, b1⟩])⟩

set_option maxHeartbeats 8000000 in
set_option maxRecDepth 100000 in
/-- Move of what has not left yet. -/
theorem move_goes (hC : Cr w b S s) (x z p g y : Int) (f1 f2 f3 : Bool) (x0 : 0 < x) (x1 : x ≤ 1048576) (hx : inH (hAt s.cf.nu 1 (!s.yn)) s.yv x = true) (hw : s.ws[x.toNat]? = some (wordI z p g y f1 f2 f3)) (hg : goodB z p g y = true)
    (hv : s.ws[x.toNat + 1]? = some x) (hb : s.wi[x.toNat]? = some false) (fit : x + (z + 2) ≤ s.ws.length) (k2 : z + 2 ≤ s.cf.nu - s.yu) (y0 : 0 ≤ s.par) (y1 : s.par ≤ 1) (c0 : 0 ≤ s.cop) (c1 : s.cop ≤ 1048576) (nl : hAt s.cf.nu 1 s.yn + s.yu + (z + 2) ≤ s.ws.length) (n0 : 0 ≤ hAt s.cf.nu 1 s.yn + s.yu)
    (rl : s.row.length ≤ 1000000)
    (ql : ∀ q pgs', TakeA (1 + 2 * s.cf.nu) s.cf.pz s.ps s.pgs (z + 2) (yesV q) pgs' → 0 ≤ q ∧ q + (z + 2) ≤ s.ws.length) :
    Calls Tryz.prog 32 #[ptr b, .int .i64 x] w fun e w' =>
      (∃ q pgs', s.cf.tn ≤ ageI g ∧ TakeA (1 + 2 * s.cf.nu) s.cf.pz s.ps s.pgs (z + 2) (yesV q) pgs' ∧ e = .returned (.int .i64 q) ∧ CoR w b S ((((s.oldTook pgs').wrote (movedW s.ws x q z (wordI z p (ageI g) (s.agesY y) (s.agesG f1) f2 true))).copied (s.cop + (z + 2))).aged q (wrap64 (s.d.pr + (z + 2)))) w') ∨
      ((ageI g < s.cf.tn ∨ TakeA (1 + 2 * s.cf.nu) s.cf.pz s.ps s.pgs (z + 2) noT s.pgs) ∧ e = .returned (.int .i64 (hAt s.cf.nu 1 s.yn + s.yu)) ∧
        CoR w b S (((s.took (z + 2)).wrote (movedW s.ws x (hAt s.cf.nu 1 s.yn + s.yu) z (wordI z p (ageI g) (s.agesY y) (s.agesG f1) f2 false))).copied (s.cop + (z + 2))) w') := by
  obtain ⟨z0, z1, p0, p1, g0, g1, h0, h1⟩ := (goodB_iff ..).1 hg
  have hg' : goodB z p (ageI g) (s.agesY y) = true := by
    rw [goodB_iff]
    unfold ageI Co.agesY
    split <;> split <;> omega
  have H := Lib.hid (leaving_yes hC x z p g y x f1 f2 f3 x0 (by omega) hx hw hg (by omega) x1 hv hb)
  have HO := Lib.hid (fun w1 S (c : Cr w1 b S s) => older_any c z p g y f1 f2 f3 g0 g1)
  have HN := Lib.hid (fun w1 S (c : Cr w1 b S s) => next_any c (ageI g) (z + 2) (by omega) k2 (by omega))
  have hW := fun w1 => oWords_any z p (ageI g) (s.agesY y) (s.agesG f1) f2 f3 w1 z0 z1
  have HW := Lib.hid hW
  have HG := Lib.hid hg'
  have RL := Lib.hid rl
  have FT := Lib.hid (And.intro fit (And.intro nl (And.intro n0 ql)))
  have ZZ := Lib.hid (And.intro z0 z1)
  clear hC hx hw hg hv hb hW hg' fit nl n0 ql rl k2 p0 p1 g0 g1 h0 h1 y0 y1
  generalize ageI g = g' at *
  generalize s.agesY y = y' at *
  generalize s.agesG f1 = f1' at *
  go_enter Tryz.func32, Tryz.ntmps32
  go_wp2_with fail
  refine H.out.mono ?_
  rintro e w1 ⟨rfl, r1⟩
  obtain ⟨S1, q1, m1⟩ := r1
  have K1 : Cw w w1 S noZ b s := ⟨⟨S1, q1, m1, fun _ e => e.elim⟩, fun _ e => e.elim⟩
  have K2 := Lib.hid (K1.box (.cells #[.int .i64 z, .int .i64 p, .int .i64 g, .int .i64 y, .bool f1, .bool f2, .bool f3] 93))
  have Z2 := Lib.hid (Blk.new w1 #[.int .i64 z, .int .i64 p, .int .i64 g, .int .i64 y, .bool f1, .bool f2, .bool f3] 93)
  clear q1 m1 K1 H
  obtain ⟨S2, c2, n2⟩ := K2.out.cr
  have H2 := Lib.hid (HO.out _ S2 c2)
  clear c2 n2 HO
  go_wp2_with fail
  refine H2.out.mono ?_
  rintro e w3 ⟨rfl, b3⟩
  have K3 := Lib.hid (K2.out.keep b3)
  have z3 := Z2.out.keep b3
  have Z3 := Lib.hid z3
  obtain ⟨d0, d1, d2, d3, d4, d5, d6, df⟩ := z3.seven
  have lt := z3.lt
  clear b3 z3 K2 Z2 H2
  go_upto_region 5 with (fail)
  clear d0 d1 d2 d3 d4 d5 d6 df lt
  have Z4 := Lib.hid (Z3.out.set7 (.int .i64 z) (.int .i64 p) (.int .i64 g') (.int .i64 y') (.bool f1') (.bool f2) (.bool f3))
  have K4 := Lib.hid (K3.out.write ((Frm.refl (fun k => k = w1.heap.size) w3).set7 _ rfl (.int .i64 z) (.int .i64 p) (.int .i64 g') (.int .i64 y') (.bool f1') (.bool f2) (.bool f3)) fun k e => .inr e)
  generalize (((((((w3.setCell ⟨w1.heap.size, 0, none⟩ (.int .i64 z)).setCell ⟨w1.heap.size, 1, none⟩ (.int .i64 p)).setCell ⟨w1.heap.size, 2, none⟩ (.int .i64 g')).setCell ⟨w1.heap.size, 3, none⟩ (.int .i64 y')).setCell ⟨w1.heap.size, 4, none⟩ (.bool f1')).setCell ⟨w1.heap.size, 5, none⟩ (.bool f2)).setCell ⟨w1.heap.size, 6, none⟩ (.bool f3)) = w4 at *
  clear K3 Z3
  generalize w1.heap.size = hb at *
  obtain ⟨d0, d1, d2, d3, d4, d5, d6, df⟩ := Z4.out.seven
  have lt := Z4.out.lt
  go_wp2_with fail
  refine (HW.out _).mono ?_
  rintro e w5 ⟨rfl, b5⟩
  have K5 := Lib.hid (K4.out.keep b5)
  have z5 := Z4.out.keep b5
  have Z5 := Lib.hid z5
  clear d0 d1 d2 d3 d4 d5 d6 df lt b5 K4 Z4 HW
  obtain ⟨d0, d1, d2, d3, d4, d5, d6, df⟩ := z5.seven
  have lt := z5.lt
  clear z5
  obtain ⟨S5, c5, m5, n5⟩ := K5.out.is
  have H5 := Lib.hid (HN.out _ S5 c5)
  have M5 := Lib.hid m5
  have N5 := Lib.hid n5
  clear c5 m5 n5 HN
  go_wp2_with fail
  refine H5.out.mono ?_
  rintro e w6 (⟨q, pgs', htn, hta, rfl, r6⟩ | ⟨hta, rfl, r6⟩)
  · obtain ⟨k6, p6⟩ := K5.out.after M5.out N5.out r6
    have z6 := Z5.out.kp p6 (.inr rfl)
    have K6 := Lib.hid k6
    have Z6 := Lib.hid z6
    have HT := Lib.hid (And.intro htn hta)
    clear d0 d1 d2 d3 d4 d5 d6 df lt k6 p6 K5 Z5 M5 N5 H5 r6 htn hta
    obtain ⟨d0, d1, d2, d3, d4, d5, d6, df⟩ := z6.seven
    have lt := z6.lt
    clear z6
    go_upto_region 8 with (fail)
    clear d0 d1 d2 d3 d4 d5 d6 df lt
    have z7 := Z6.out.set_ 6 (.bool true)
    simp only [List.setIfInBounds_toArray, List.set_cons_zero, List.set_cons_succ] at z7
    have Z7 := Lib.hid z7
    have K7 := Lib.hid (K6.out.write ((Frm.refl (fun k => k = hb) w6).setCell (p := ⟨hb, 6, none⟩) (fun _ => rfl) (.bool true)) fun k e => .inr e)
    generalize w6.setCell ⟨hb, 6, none⟩ (.bool true) = w7 at *
    clear K6 Z6 z7
    obtain ⟨d0, d1, d2, d3, d4, d5, d6, df⟩ := Z7.out.seven
    have lt := Z7.out.lt
    have K8 := Lib.hid (K7.out.keep (below_drew w7))
    have Z8 := Lib.hid (Z7.out.keep (below_drew w7))
    obtain ⟨S8, c8, m8, n8⟩ := K8.out.is
    obtain ⟨a, e13, hm⟩ := omove_co c8 x q z p g' y' f1' f2 true HG.out (by omega) FT.out.1 (FT.out.2.2.2 q pgs' HT.out.2).1 (FT.out.2.2.2 q pgs' HT.out.2).2
    have c13 : w7.cell? ⟨b, 13, Option.none⟩ = some (arP a) := e13
    have HM := Lib.hid hm
    have M8 := Lib.hid m8
    have N8 := Lib.hid n8
    clear c8 m8 n8 hm K7 Z7 e13
    go_still_tail 10, (by kernel_rfl)
    change wpList _ _ _ _ _ w7.drew
    clear d0 d1 d2 d3 d4 d5 d6 df c13
    go_wp2_with fail
    refine HM.out.mono ?_
    rintro e w9 ⟨rfl, r9⟩
    obtain ⟨k9, p9⟩ := K8.out.after M8.out N8.out r9
    have K9 := Lib.hid k9
    have Z9 := Lib.hid (Z8.out.kp p9 (.inr rfl))
    obtain ⟨S9, c9, m9, n9⟩ := K9.out.is
    obtain ⟨P9, own9, h9, hb9, hc9, hf9, hl9⟩ := c9.cell
    have c23 : w9.cell? ⟨b, 23, Option.none⟩ = some (.int .i64 s.cop) := hc9 23
    clear k9 p9 r9 K8 Z8 HM M8 N8 c9 m9 n9 h9 hc9
    go_upto_region 11 with (fail)
    obtain ⟨k10, p10⟩ := K9.out.one fun S c => c.setCop (s.cop + (z + 2))
    have K10 := Lib.hid k10
    generalize w9.setCell ⟨b, 23, none⟩ (.int .i64 (s.cop + (z + 2))) = w10 at *
    clear k10 p10 K9 Z9 c23 hf9 hl9 hb9
    obtain ⟨S10, c10, m10, n10⟩ := K10.out.is
    obtain ⟨A, c, LL, kb, kl, c25, qu, hne, hT⟩ := c10.row
    have r25 : w10.cell? ⟨b, 25, Option.none⟩ = some (.slice A s.row.length c) := c25
    have few : s.row.length ≤ 1048576 := by have := RL.out; omega
    have QU : Hid (Qu (w10.alloc (.cells #[.int .i64 q] 3)) A s.row.length c s.row) := Lib.hid (qu.keep ((Below.refl _ w10).alloc (Nat.le_refl _) _))
    have TT := Lib.hid hT
    have M10 := Lib.hid m10
    have N10 := Lib.hid n10
    have HNE := Lib.hid hne
    have KB := Lib.hid (And.intro kb kl)
    have EX := Lib.hid (show (w10.alloc (.cells #[.int .i64 q] 3)).cell? ⟨w10.heap.size, 0, none⟩ = some (.int .i64 q) from (Blk.new w10 #[.int .i64 q] 3).cell 0)
    obtain ⟨_, _, _, _, _, hf10, l10⟩ := c10.cell
    clear c10 m10 n10 c25 qu hT hne kb kl
    go_wp2_with (first
      | (at_builtin; (refine wpList_append_qu _ rfl _ _ rfl QU.out few q ⟨w10.heap.size, 0, none⟩ 1 rfl rfl EX.out ?_))
      | fail)
    intro A' c' w12 q12 g12
    have gg : Grw A A' w10 w12 := ⟨(Frm.of_below ((Below.refl _ w10).alloc (Nat.le_refl _) (.cells #[.int .i64 q] 3)) : Frm (fun k => blkOf A = some k) _ _).trans g12.frm (fun i _ e => e), fun k hk => (g12.at_ k hk).imp id fun h => Nat.le_trans (by simp) h⟩
    have lq : (s.row ++ [q]).length = s.row.length + 1 := by simp
    have kb12 := KB.out.1.frm gg.frm fun e => HNE.out _ e rfl
    have f12 : w12.frozen? ⟨b, 25, Option.none⟩ = false := kb12.frozen 25
    have e12 : w12.cell? ⟨b, 25, Option.none⟩ = some (.slice A s.row.length c) := (kb12.cell 25).trans KB.out.2
    obtain ⟨k13, p13⟩ := K10.out.after M10.out N10.out (TT.out A' c' (s.row ++ [q]) w12 gg (by rw [lq]; exact q12))
    rw [lq] at k13 p13
    have K13 := Lib.hid k13
    clear k13 p13 kb12 q12 g12 gg QU TT M10 N10 HNE KB EX K10 r25 hf10
    go_upto_region 13 with (fail)
    generalize w12.setCell ⟨b, 25, none⟩ (.slice A' (s.row.length + 1) c') = w13 at *
    clear f12 e12 l10
    obtain ⟨S13, c13, _, _⟩ := K13.out.is
    obtain ⟨P13, own13, h13, hb13, hc13, hf13, l13⟩ := c13.cell
    have c28 : w13.cell? ⟨b, 28, Option.none⟩ = some (.int .i64 s.d.pr) := hc13 28
    clear c13 h13 hc13 hb13
    go_upto_region 14 with (fail)
    have K14 := Lib.hid (K13.out.one fun S c => c.setPr (wrap64 (s.d.pr + (z + 2)))).1
    go_wp2
    go_ret
    exact .inl ⟨q, pgs', HT.out.1, HT.out.2, rfl, K14.out.done⟩
  · obtain ⟨k6, p6⟩ := K5.out.after M5.out N5.out r6
    have z6 := Z5.out.kp p6 (.inr rfl)
    have K6 := Lib.hid k6
    have Z6 := Lib.hid z6
    have HT := Lib.hid hta
    clear d0 d1 d2 d3 d4 d5 d6 df lt k6 p6 K5 Z5 M5 N5 H5 r6 hta
    obtain ⟨d0, d1, d2, d3, d4, d5, d6, df⟩ := z6.seven
    have lt := z6.lt
    clear z6
    go_upto_region 8 with (fail)
    clear d0 d1 d2 d3 d4 d5 d6 df lt
    have z7 := Z6.out.set_ 6 (.bool false)
    simp only [List.setIfInBounds_toArray, List.set_cons_zero, List.set_cons_succ] at z7
    have Z7 := Lib.hid z7
    have K7 := Lib.hid (K6.out.write ((Frm.refl (fun k => k = hb) w6).setCell (p := ⟨hb, 6, none⟩) (fun _ => rfl) (.bool false)) fun k e => .inr e)
    generalize w6.setCell ⟨hb, 6, none⟩ (.bool false) = w7 at *
    clear K6 Z6 z7
    obtain ⟨d0, d1, d2, d3, d4, d5, d6, df⟩ := Z7.out.seven
    have lt := Z7.out.lt
    have K8 := Lib.hid (K7.out.keep (below_drew w7))
    have Z8 := Lib.hid (Z7.out.keep (below_drew w7))
    obtain ⟨S8, c8, m8, n8⟩ := K8.out.is
    obtain ⟨a, e13, hm⟩ := omove_co c8 x (hAt s.cf.nu 1 s.yn + s.yu) z p g' y' f1' f2 false HG.out (by omega) FT.out.1 FT.out.2.2.1 FT.out.2.1
    have c13 : w7.cell? ⟨b, 13, Option.none⟩ = some (arP a) := e13
    have HM := Lib.hid hm
    have M8 := Lib.hid m8
    have N8 := Lib.hid n8
    clear c8 m8 n8 hm K7 Z7 e13
    go_still_tail 10, (by kernel_rfl)
    change wpList _ _ _ _ _ w7.drew
    clear d0 d1 d2 d3 d4 d5 d6 df c13
    go_wp2_with fail
    refine HM.out.mono ?_
    rintro e w9 ⟨rfl, r9⟩
    obtain ⟨k9, p9⟩ := K8.out.after M8.out N8.out r9
    have K9 := Lib.hid k9
    have Z9 := Lib.hid (Z8.out.kp p9 (.inr rfl))
    obtain ⟨S9, c9, m9, n9⟩ := K9.out.is
    obtain ⟨P9, own9, h9, hb9, hc9, hf9, hl9⟩ := c9.cell
    have c23 : w9.cell? ⟨b, 23, Option.none⟩ = some (.int .i64 s.cop) := hc9 23
    clear k9 p9 r9 K8 Z8 HM M8 N8 c9 m9 n9 h9 hc9
    go_upto_region 11 with (fail)
    have K10 := Lib.hid (K9.out.one fun S c => c.setCop (s.cop + (z + 2))).1
    go_wp2
    go_ret
    exact .inr ⟨HT.out, rfl, K10.out.done⟩

end
end Go.Proofs.YthmhehehomieiaaGreat

/- A core and its objects without words, side by side; Now and Move. -/
namespace Go.Proofs.YthmhehehomieiaaGreat
namespace Gc
open Go.RowKit

/-- Is a place among those that are to be looked at? -/
def Cov (F C : Int) (xs : List Int) (ms : List Bool) (p : Int) : Prop := p ∈ xs ∨ ms[((p - F) / C).toNat]? = some true

/-- The core s holds the objects of A. -/
structure Sim (s : Co) (A : Hp) : Prop where
  laid : Laid s.cf.nu s.yn s.yu s.yv s.cf.pz s.pgs s.ws A
  hs : A.hs = s.hs
  row : A.row = s.row
  cop : s.cop + A.rest = s.yv
  par : 0 ≤ s.par ∧ s.par ≤ 1
  few : 2 * ((A.row.length : Int) + (A.un.length : Int)) ≤ s.cf.nu
  pl : (s.pgs.length : Int) = s.cf.ps
  beg : ∀ p, p ∈ A.F ∨ p ∈ A.E → s.wi[p.toNat]? = some false
  X : ∀ p, A.X p → A.D p ∨ Cov (1 + 2 * s.cf.nu) s.cf.cd s.rx s.rm p
  Y : ∀ p, A.Y p → Cov (1 + 2 * s.cf.nu) s.cf.cd s.ry s.rn p

section
variable {nu yu yv G : Int} {yn : Bool} {pgs : List Pg} {ws : List Int} {A : Hp} {x : Int} {s : Co} {w : World} {b : Nat} {S : Nat → Prop}

theorem inH_iff {a u p : Int} : inH a u p = true ↔ a ≤ p ∧ p < a + u := by
  unfold inH
  rw [Bool.and_eq_true, decide_eq_true_eq, decide_eq_true_eq]

theorem sz_two (o : Ob) : 2 ≤ o.sz := by unfold Ob.sz; omega

theorem Laid.from_iff (h : Laid nu yn yu yv G pgs ws A) (i : Inv x A) {p : Int} (hp : A.ok p) : inH (hAt nu 1 (!yn)) yv p = true ↔ p ∈ A.E := by
  have h2 := hAt_two nu yn
  have hu := h.used
  have hv := h.le
  have p0 := h.pgs0
  rw [inH_iff]
  constructor
  · intro z
    by_cases e : p = 0
    · omega
    · obtain ⟨o, ho⟩ := i.ok_ob hp e
      have := sz_two o
      rcases h.where_ i ho with ⟨_, _, _⟩ | ⟨e, _, _⟩ | ⟨_, _, _⟩
      · omega
      · exact e
      · omega
  · intro e
    obtain ⟨o, ho⟩ := (i.dom p).2 (.inr (.inl e))
    have := sz_two o
    have := h.he.span e ho
    omega
theorem Laid.in_iff (h : Laid nu yn yu yv G pgs ws A) (i : Inv x A) {p : Int} (hp : A.ok p) : inH (hAt nu 1 yn) yu p = true ↔ p ∈ A.F := by
  have h2 := hAt_two nu yn
  have hu := h.used
  have hv := h.le
  have p0 := h.pgs0
  rw [inH_iff]
  constructor
  · intro z
    by_cases e : p = 0
    · omega
    · obtain ⟨o, ho⟩ := i.ok_ob hp e
      have := sz_two o
      rcases h.where_ i ho with ⟨e, _, _⟩ | ⟨_, _, _⟩ | ⟨_, _, _⟩
      · exact e
      · omega
      · omega
  · intro e
    obtain ⟨o, ho⟩ := (i.dom p).2 (.inl e)
    have := sz_two o
    have := h.hf.span e ho
    omega

/-- What begins somewhere does so still when room was taken, and so does what will stand there. -/
theorem Sim.beg_took (h : Sim s A) (i : Inv x A) (hl : s.wi.length = (1 + 2 * s.cf.nu).toNat) {k : Int} (k1 : 1 ≤ k) (kr : s.yu + k ≤ s.cf.nu) {p : Int} (hp : p ∈ A.F ∨ p ∈ A.E ∨ p = hAt s.cf.nu 1 s.yn + s.yu) : (s.took k).wi[p.toNat]? = some false := by
  have h2 := hAt_two s.cf.nu s.yn
  have hu := h.laid.used
  have hv := h.laid.le
  have n0 := h.laid.n0
  show (wiS s.wi (hAt s.cf.nu 1 s.yn + s.yu).toNat k.toNat)[p.toNat]? = some false
  rcases hp with e | e | e
  · obtain ⟨o, ho⟩ := (i.dom p).2 (.inl e)
    have := sz_two o
    have := h.laid.hf.span e ho
    rw [wiS_far (by omega)]
    exact h.beg p (.inl e)
  · obtain ⟨o, ho⟩ := (i.dom p).2 (.inr (.inl e))
    have := sz_two o
    have := h.laid.he.span e ho
    rcases h2 with ⟨h3, h4⟩ | ⟨h3, h4⟩
    · rw [wiS_past _ (by omega)]
      exact h.beg p (.inr e)
    · rw [wiS_far (by omega)]
      exact h.beg p (.inr e)
  · obtain ⟨m, hm⟩ : ∃ m, k.toNat = m + 1 := ⟨k.toNat - 1, by omega⟩
    rw [e, hm]
    exact wiS_at (by omega) m

theorem Sim.old_iff (h : Sim s A) (p : Int) : s.oldB p = true ↔ p ∈ A.O := by
  unfold Co.oldB
  rw [List.find?_isSome, h.laid.old]
  constructor
  · rintro ⟨c, hc, e⟩
    unfold hitB at e
    rw [Bool.and_eq_true, decide_eq_true_eq] at e
    exact ⟨c, ⟨hc, e.2⟩, e.1⟩
  · rintro ⟨c, ⟨h1, h2⟩, e⟩
    refine ⟨c, h1, ?_⟩
    unfold hitB
    rw [Bool.and_eq_true, decide_eq_true_eq]
    exact ⟨e, h2⟩

/-- Where something is now is a place. -/
theorem Sim.bound (h : Sim s A) (i : Inv x A) (wl : s.ws.length ≤ 1048576) {p : Int} (hp : A.ok p) : 0 ≤ p ∧ p ≤ 1048576 := by
  by_cases e : p = 0
  · omega
  · obtain ⟨o, ho⟩ := i.ok_ob hp e
    have := h.laid.lies.pos p o ho
    have := (h.laid.lies.at_ p o ho).fit
    have := sz_two o
    omega

theorem sum_filter {f : Int → Bool} : ∀ L : List Int, A.sum (L.filter f) ≤ A.sum L
  | [] => Nat.le_refl _
  | a :: L => by
    have := sum_filter (f := f) L
    by_cases e : f a = true
    · rw [List.filter_cons_of_pos e, Hp.sum_cons, Hp.sum_cons]; omega
    · rw [List.filter_cons_of_neg e, Hp.sum_cons]; omega
theorem rest_le : A.rest ≤ A.sum A.E := sum_filter _

/-- Now. -/
theorem now_sim (hC : Cr w b S s) (h : Sim s A) (i : Inv x A) {p : Int} (hp : A.ok p) :
    Calls Tryz.prog 31 #[ptr b, .int .i64 p] w fun e w' => e = .returned (.int .i64 (A.now p)) ∧ CoR w b S s w' := by
  have wl := hC.wl
  have bp := h.bound i wl hp
  by_cases e : p ∈ A.E
  · obtain ⟨o, ho⟩ := (i.dom p).2 (.inr (.inl e))
    have at_ := h.laid.lies.at_ p o ho
    have hw : A.ok o.way := by rw [← Hp.now_yes e ho]; exact i.now_ok hp
    have bw := h.bound i wl hw
    rw [Hp.now_yes e ho]
    exact now_yes hC p _ _ _ _ o.way _ _ _ (i.ob_pos ho) (by omega) ((h.laid.from_iff i hp).2 e) at_.head at_.good bw.1 bw.2 at_.way (h.beg p (.inr e))
  · rw [Hp.now_no e]
    have e' : inH (hAt s.cf.nu 1 (!s.yn)) s.yv p = false := by
      cases z : inH (hAt s.cf.nu 1 (!s.yn)) s.yv p
      · rfl
      · exact absurd ((h.laid.from_iff i hp).1 z) e
    exact (now_of p w (leaving_no hC p e')).mono fun e w' ⟨h1, h2⟩ => ⟨h1, hC.stay h2⟩

theorem _root_.Go.Proofs.YthmhehehomieiaaGreat.Cr.plen (hC : Cr w b S s) : s.pgs.length = s.ps.length := by
  obtain ⟨P, own, h0, rfl, rfl⟩ := hC
  obtain ⟨pb, ub, hp, _⟩ := h0.prt 3
  exact hp.len

/-- Words of the nursery, but those that have left. -/
def _root_.Go.Proofs.YthmhehehomieiaaGreat.Co.tot (s : Co) : Int := s.yu + s.yv - s.cop

/-- What a move leaves alone. -/
structure Same (s s' : Co) : Prop where
  cf : s'.cf = s.cf
  yn : s'.yn = s.yn
  yv : s'.yv = s.yv
  ps : s'.ps = s.ps
  rx : s'.rx = s.rx
  rm : s'.rm = s.rm
  ry : s'.ry = s.ry
  rn : s'.rn = s.rn
  gl : s'.gl = s.gl
  gx : s'.gx = s.gx
  hs : s'.hs = s.hs
  par : s'.par = s.par
  ph : s'.ph = s.ph
  mv : s'.mv = s.mv
  scan : s'.scan = s.scan
  look : s'.look = s.look
  mi : s'.d.mi = s.d.mi
  al : (s'.d.al, s'.d.wd) = (s.d.al, s.d.wd)
  pt : s'.pt = s.pt
  gr : s'.tot ≤ s.tot

theorem Same.refl (s : Co) : Same s s := ⟨rfl, rfl, rfl, rfl, rfl, rfl, rfl, rfl, rfl, rfl, rfl, rfl, rfl, rfl, rfl, rfl, rfl, rfl, rfl, Int.le_refl _⟩
theorem Same.trans {s t u : Co} (h : Same s t) (k : Same t u) : Same s u :=
  ⟨k.cf.trans h.cf, k.yn.trans h.yn, k.yv.trans h.yv, k.ps.trans h.ps, k.rx.trans h.rx, k.rm.trans h.rm, k.ry.trans h.ry, k.rn.trans h.rn, k.gl.trans h.gl, k.gx.trans h.gx, k.hs.trans h.hs, k.par.trans h.par, k.ph.trans h.ph, k.mv.trans h.mv, k.scan.trans h.scan, k.look.trans h.look, k.mi.trans h.mi, k.al.trans h.al, k.pt.trans h.pt, Int.le_trans k.gr h.gr⟩

/-- What is counted but by moves. -/
def nums (s : Co) : Int × Int × Int := (s.d.mi, s.d.al, s.d.wd)
theorem Same.nums {s s' : Co} (h : Same s s') : nums s' = nums s := by
  have e := h.al
  injection e with e1 e2
  unfold Gc.nums
  rw [h.mi, e1, e2]

/-- A head behind a move. -/
def _root_.Go.Proofs.YthmhehehomieiaaGreat.Co.agedO (s : Co) (o : Ob) : Ob := { o with age := ageI o.age, par := s.agesY o.par, grey := s.agesG o.grey }
/-- A core from which an object has moved: among what is old, to the half that is filled. -/
def _root_.Go.Proofs.YthmhehehomieiaaGreat.Co.goneO (s : Co) (o : Ob) (p q : Int) (pgs' : List Pg) : Co :=
  (((s.oldTook pgs').wrote (movedW s.ws p q (o.n : Nat) (wordI (o.n : Nat) o.rs.length (ageI o.age) (s.agesY o.par) (s.agesG o.grey) false true))).copied (s.cop + ((o.n : Nat) + 2))).aged q (wrap64 (s.d.pr + ((o.n : Nat) + 2)))
def _root_.Go.Proofs.YthmhehehomieiaaGreat.Co.goneY (s : Co) (o : Ob) (p : Int) : Co :=
  ((s.took ((o.n : Nat) + 2)).wrote (movedW s.ws p (hAt s.cf.nu 1 s.yn + s.yu) (o.n : Nat) (wordI (o.n : Nat) o.rs.length (ageI o.age) (s.agesY o.par) (s.agesG o.grey) false false))).copied (s.cop + ((o.n : Nat) + 2))

/-- Move, of a core and its objects: all that comes of it. -/
inductive MoveD (s : Co) (A : Hp) (p : Int) : Co → Hp → Int → Prop
  | stay : p ∉ A.E → MoveD s A p s A p
  | gone {o : Ob} : p ∈ A.E → A.ob p = some o → o.way ≠ p → MoveD s A p s A o.way
  | old {o : Ob} {q : Int} {pgs' : List Pg} : p ∈ A.E → A.ob p = some o → o.way = p → A.ob q = none → 0 < q → s.cf.tn ≤ ageI o.age → TakeA (1 + 2 * s.cf.nu) s.cf.pz s.ps s.pgs ((o.n : Nat) + 2) (yesV q) pgs' → MoveD s A p (s.goneO o p q pgs') (A.left p q o (s.agedO o) true) q
  | young {o : Ob} : p ∈ A.E → A.ob p = some o → o.way = p → A.ob (hAt s.cf.nu 1 s.yn + s.yu) = none → 0 < hAt s.cf.nu 1 s.yn + s.yu → (ageI o.age < s.cf.tn ∨ TakeA (1 + 2 * s.cf.nu) s.cf.pz s.ps s.pgs ((o.n : Nat) + 2) noT s.pgs) →
      MoveD s A p (s.goneY o p) (A.left p (hAt s.cf.nu 1 s.yn + s.yu) o (s.agedO o) false) (hAt s.cf.nu 1 s.yn + s.yu)

theorem MoveD.r {p r : Int} {t : Co} {B : Hp} (h : MoveD s A p t B r) : MoveR A p B r := by
  cases h with
  | stay e => exact .stay e
  | gone e ho n => exact .gone e ho n
  | old e ho w hq q0 _ _ => exact .goes e ho w hq q0
  | young e ho w hq q0 _ => exact .goes e ho w hq q0

/-- What comes of calls of a cycle, one behind the other. -/
inductive Prims : Co → Hp → Co → Hp → Prop
  | refl (s : Co) (A : Hp) : Prims s A s A
  | trans {s t u : Co} {A B C : Hp} : Prims s A t B → Prims t B u C → Prims s A u C
  | move {s t : Co} {A B : Hp} {p r x : Int} : Inv x A → (p ∈ A.hs ∨ ∃ u v, u ∉ A.E ∧ A.ob u = some v ∧ p ∈ v.rs) → MoveD s A p t B r → Prims s A t B
  | put {s : Co} {A : Hp} {p : Int} {o o' : Ob} {vs : List Int} : p ∉ A.E → A.ob p = some o → o'.way = o.way → o'.age = o.age → o'.ss = o.ss → o'.rs.map A.now = o.rs.map A.now → Prims s A (s.wrote vs) (A.put p o')
  | side {s t : Co} {A B : Hp} : t.cf = s.cf → t.pgs = s.pgs → t.ps = s.ps → B.ob = A.ob → B.F = A.F → B.E = A.E → B.O = A.O → B.hs.map A.now = A.hs.map A.now → Prims s A t B

theorem Prims.pre {s t u : Co} {A B C : Hp} (k : Prims t B u C) (h1 : t.cf = s.cf) (h2 : t.pgs = s.pgs) (h3 : t.ps = s.ps) (h4 : B.ob = A.ob) (h5 : B.F = A.F) (h6 : B.E = A.E) (h7 : B.O = A.O) (h8 : B.hs.map A.now = A.hs.map A.now) : Prims s A u C :=
  .trans (.side h1 h2 h3 h4 h5 h6 h7 h8) k

/-- What moves and writes leave alone, and how they came. -/
structure SameT (s : Co) (A : Hp) (s' : Co) (B : Hp) : Prop extends Same s s' where
  tr : Prims s A s' B
theorem Same.t {s s' : Co} {A B : Hp} (h : Same s s') (tr : Prims s A s' B) : SameT s A s' B := ⟨h, tr⟩
theorem SameT.refl (s : Co) {A : Hp} : SameT s A s A := ⟨.refl s, .refl s A⟩
theorem SameT.trans {s t u : Co} {A B C : Hp} (h : SameT s A t B) (k : SameT t B u C) : SameT s A u C := ⟨h.toSame.trans k.toSame, h.tr.trans k.tr⟩

/-- Move. -/
theorem move_sim (hC : Cr w b S s) (h : Sim s A) (i : Inv x A) {p : Int} (hp : A.ok p) :
    Calls Tryz.prog 32 #[ptr b, .int .i64 p] w fun e w' => ∃ s' B r, e = .returned (.int .i64 r) ∧ CoR w b S s' w' ∧ MoveD s A p s' B r ∧ Sim s' B ∧ Same s s' := by
  have wl := hC.wl
  have bp := h.bound i wl hp
  by_cases e : p ∈ A.E
  · obtain ⟨o, ho⟩ := (i.dom p).2 (.inr (.inl e))
    have at_ := h.laid.lies.at_ p o ho
    have eO : decide (p ∈ A.O) = false := decide_eq_false (i.eo p e)
    rw [eO] at at_
    have hw : A.ok o.way := by rw [← Hp.now_yes e ho]; exact i.now_ok hp
    have bw := h.bound i wl hw
    by_cases ew : o.way = p
    · have gd := (goodB_iff ..).1 at_.good
      obtain ⟨hn, hq, q0, ly⟩ := h.laid.leftY i (o' := { o with age := ageI o.age, par := s.agesY o.par, grey := s.agesG o.grey }) e ho ew
        (by unfold ageI; dsimp only; split <;> omega) (by unfold ageI; dsimp only; split <;> omega) (by unfold Co.agesY; dsimp only; have := h.par; split <;> omega) (by unfold Co.agesY; dsimp only; have := h.par; split <;> omega)
      have no : o.noted = false := by
        cases z : o.noted
        · rfl
        · exact absurd (i.noted p o ho z).1 (i.eo p e)
      have hnx := h.laid.next i (sz_two o) hn
      have e0 : (o.sz : Int) = o.n + 2 := by show ((o.n + 2 : Nat) : Int) = _; omega
      have rst := rest_le (A := A)
      have hcop := h.cop
      have hle := h.laid.le
      have hn1 := h.laid.n1
      have hus := h.laid.he.use
      have hrl := h.few
      have ql : ∀ q pgs', TakeA (1 + 2 * s.cf.nu) s.cf.pz s.ps s.pgs ((o.n : Nat) + 2) (yesV q) pgs' → TookU (1 + 2 * s.cf.nu) s.cf.pz ((o.n : Nat) + 2) q s.pgs pgs' := fun q pgs' ht => took_used h.laid.g0 h.laid.wf (by have := gd; omega) ht
      refine (move_goes hC p (o.n : Nat) o.rs.length o.age o.par o.grey o.noted false (i.ob_pos ho) bp.2 ((h.laid.from_iff i hp).2 e) at_.head at_.good (by have := at_.way; rw [ew] at this; exact this) (h.beg p (.inr e))
        (by have := at_.fit; omega) (by omega) h.par.1 h.par.2 (by omega) (by omega) (by have := hnx.2.2.2.1; omega) (by omega) (by rw [← h.row]; omega)
        (fun q pgs' ht => by
          obtain ⟨c, _, h2, h3, _⟩ := ql q pgs' ht
          have := h.laid.len
          have := h.laid.n0
          omega)).mono ?_
      rintro e' w' (⟨q, pgs', htn, ht, he, hr⟩ | ⟨htn, he, hr⟩)
      · rw [no] at hr
        obtain ⟨S', c', m'⟩ := hr
        have wf' := c'.wf
        have pl : pgs'.length = s.pgs.length := (show pgs'.length = s.ps.length from c'.plen).trans hC.plen.symm
        have tk := ql q pgs' ht
        rw [← e0] at tk
        obtain ⟨hq', q0', lo⟩ := h.laid.leftO i (o' := { o with age := ageI o.age, par := s.agesY o.par, grey := s.agesG o.grey }) e ho ew
          (by unfold ageI; dsimp only; split <;> omega) (by unfold ageI; dsimp only; split <;> omega) (by unfold Co.agesY; dsimp only; have := h.par; split <;> omega) (by unfold Co.agesY; dsimp only; have := h.par; split <;> omega) tk wf'.1 pl
        have rs := left_rest i (o' := s.agedO o) (old := true) e ho ew hq' q0'
        have lu := left_un i (o' := s.agedO o) (old := true) e ho ew hq' q0'
        refine ⟨_, _, q, he, ⟨S', c', m'⟩, .old e ho ew hq' q0' htn ht, ?_, ?_⟩
        · exact
            { laid := lo, hs := h.hs, par := h.par, X := h.X, Y := h.Y, pl := by show (pgs'.length : Int) = s.cf.ps; rw [pl]; exact h.pl
              row := by show A.row ++ [q] = s.row ++ [q]; rw [h.row]
              cop := by show s.cop + ((o.n : Nat) + 2) + _ = s.yv; omega
              beg := fun p' hp' => h.beg p' hp'
              few := by show 2 * (((A.row ++ [q]).length : Int) + _) ≤ s.cf.nu; rw [List.length_append, List.length_singleton]; omega }
        · exact ⟨rfl, rfl, rfl, rfl, rfl, rfl, rfl, rfl, rfl, rfl, rfl, rfl, rfl, rfl, rfl, rfl, rfl, rfl, rfl, by show s.yu + s.yv - (s.cop + ((o.n : Nat) + 2)) ≤ s.yu + s.yv - s.cop; omega⟩
      · rw [no] at hr
        have rs := left_rest i (o' := s.agedO o) (old := false) e ho ew hq q0
        have lu := left_un i (o' := s.agedO o) (old := false) e ho ew hq q0
        rw [e0] at ly
        refine ⟨_, _, _, he, hr, .young e ho ew hq q0 htn, ?_, ?_⟩
        · exact
            { laid := ly, hs := h.hs, par := h.par, X := h.X, Y := h.Y, pl := h.pl
              row := h.row
              cop := by show s.cop + ((o.n : Nat) + 2) + _ = s.yv; omega
              beg := fun p' hp' => h.beg_took i hC.wi_len (by omega) (by have := hnx.2.2.2.1; omega) (by
                rcases hp' with e1 | e1
                · rcases List.mem_append.1 (show p' ∈ A.F ++ [_] from e1) with e2 | e2
                  · exact .inl e2
                  · exact .inr (.inr (by simpa using e2))
                · exact .inr (.inl e1))
              few := by show 2 * ((A.row.length : Int) + _) ≤ s.cf.nu; omega }
        · exact ⟨rfl, rfl, rfl, rfl, rfl, rfl, rfl, rfl, rfl, rfl, rfl, rfl, rfl, rfl, rfl, rfl, rfl, rfl, rfl, by show s.yu + ((o.n : Nat) + 2) + s.yv - (s.cop + ((o.n : Nat) + 2)) ≤ s.yu + s.yv - s.cop; omega⟩
    · exact (move_gone hC p _ _ _ _ o.way _ _ _ (i.ob_pos ho) (by omega) ((h.laid.from_iff i hp).2 e) at_.head at_.good bw.1 bw.2 at_.way (h.beg p (.inr e)) ew).mono fun e' w' ⟨h1, h2⟩ => ⟨s, A, o.way, h1, h2, .gone e ho ew, h, .refl s⟩
  · have e' : inH (hAt s.cf.nu 1 (!s.yn)) s.yv p = false := by
      cases z : inH (hAt s.cf.nu 1 (!s.yn)) s.yv p
      · rfl
      · exact absurd ((h.laid.from_iff i hp).1 z) e
    exact (move_of p w (leaving_no hC p e')).mono fun _ w' ⟨h1, h2⟩ => ⟨s, A, p, h1, hC.stay h2, .stay e, h, .refl s⟩
end
end Gc
end Go.Proofs.YthmhehehomieiaaGreat

/- What moves, references gone through and objects followed come to hangs on the core and its objects alone, not on where the core's parts lie: for two cores that go the same way. -/
namespace Go.Proofs.YthmhehehomieiaaGreat

/-- The same core, its parts elsewhere. -/
def Co.re (s : Co) (P : Pts) : Co := { s with pt := P }

namespace Gc
section
variable {s t t' u : Co} {A B B' C : Hp} {p r r' : Int} {P : Pts}

theorem yes_no {q : Int} : yesV q ≠ noT := by unfold noT yesV; intro e; simp at e
theorem yes_one {q q' : Int} (h : yesV q = yesV q') : q = q' := by unfold yesV at h; simpa using h

theorem MoveD.re (m : MoveD s A p t B r) (P : Pts) : MoveD (s.re P) A p (t.re P) B r := by
  cases m with
  | stay e => exact .stay e
  | gone e ho n => exact .gone e ho n
  | old e ho w hq q0 h1 h2 => exact .old (s := s.re P) e ho w hq q0 h1 h2
  | young e ho w hq q0 h1 => exact .young (s := s.re P) e ho w hq q0 h1

theorem MoveD.one (m : MoveD s A p t B r) (k : MoveD s A p t' B' r') : t' = t ∧ B' = B ∧ r' = r := by
  cases m with
  | stay e =>
    cases k with
    | stay _ => exact ⟨rfl, rfl, rfl⟩
    | gone e' _ _ => exact absurd e' e
    | old e' _ _ _ _ _ _ => exact absurd e' e
    | young e' _ _ _ _ _ => exact absurd e' e
  | gone e ho n =>
    cases k with
    | stay e' => exact absurd e e'
    | gone _ ho' _ => rw [ho] at ho'; cases ho'; exact ⟨rfl, rfl, rfl⟩
    | old _ ho' w' _ _ _ _ => rw [ho] at ho'; cases ho'; exact absurd w' n
    | young _ ho' w' _ _ _ => rw [ho] at ho'; cases ho'; exact absurd w' n
  | old e ho w hq q0 h1 h2 =>
    cases k with
    | stay e' => exact absurd e e'
    | gone _ ho' n' => rw [ho] at ho'; cases ho'; exact absurd w n'
    | old _ ho' _ _ _ _ h2' =>
      rw [ho] at ho'; cases ho'
      obtain ⟨e1, e2⟩ := h2.one h2'
      have e1 := yes_one e1
      subst e1 e2
      exact ⟨rfl, rfl, rfl⟩
    | young _ ho' _ _ _ h1' =>
      rw [ho] at ho'; cases ho'
      rcases h1' with z | z
      · omega
      · exact absurd (h2.one z).1 yes_no
  | young e ho w hq q0 h1 =>
    cases k with
    | stay e' => exact absurd e e'
    | gone _ ho' n' => rw [ho] at ho'; cases ho'; exact absurd w n'
    | old _ ho' _ _ _ h1' h2' =>
      rw [ho] at ho'; cases ho'
      rcases h1 with z | z
      · omega
      · exact absurd (h2'.one z).1 yes_no
    | young _ ho' _ _ _ _ => rw [ho] at ho'; cases ho'; exact ⟨rfl, rfl, rfl⟩

/-- A reference is gone through. -/
inductive RefD (s : Co) (A : Hp) (p : Int) (n : Nat) : Co → Hp → Int → Prop
  | same {o : Ob} {r : Int} {t : Co} {B : Hp} : A.ob p = some o → o.rs[n]? = some r → MoveD s A r t B r → RefD s A p n t B r
  | set {o : Ob} {r0 r : Int} {t : Co} {B : Hp} : A.ob p = some o → o.rs[n]? = some r0 → MoveD s A r0 t B r → r ≠ r0 → RefD s A p n (t.wrote (t.ws.set (p + (2 + (n : Int))).toNat r)) (B.put p { o with rs := o.rs.set n r }) r

theorem RefD.re {n : Nat} (m : RefD s A p n t B r) (P : Pts) : RefD (s.re P) A p n (t.re P) B r := by
  cases m with
  | same ho hr m => exact .same ho hr (m.re P)
  | set ho hr m ne => exact .set ho hr (m.re P) ne
theorem RefD.one {n : Nat} (m : RefD s A p n t B r) (k : RefD s A p n t' B' r') : t' = t ∧ B' = B ∧ r' = r := by
  cases m with
  | same ho hr m =>
    cases k with
    | same ho' hr' m' =>
      rw [ho] at ho'; cases ho'
      rw [hr] at hr'; cases hr'
      exact m.one m'
    | set ho' hr' m' ne =>
      rw [ho] at ho'; cases ho'
      rw [hr] at hr'; cases hr'
      exact absurd (m.one m').2.2 ne
  | set ho hr m ne =>
    cases k with
    | same ho' hr' m' =>
      rw [ho] at ho'; cases ho'
      rw [hr] at hr'; cases hr'
      exact absurd (m.one m').2.2.symm ne
    | set ho' hr' m' ne' =>
      rw [ho] at ho'; cases ho'
      rw [hr] at hr'; cases hr'
      obtain ⟨rfl, rfl, rfl⟩ := m.one m'
      exact ⟨rfl, rfl, rfl⟩
end
end Gc
end Go.Proofs.YthmhehehomieiaaGreat

/- Calls of the core's parts that a minor cycle makes. -/
namespace Go.Proofs.YthmhehehomieiaaGreat
open Go.RowKit

def Co.rem (s : Co) (xs : List Int) (ms : List Bool) (ys : List Int) (ns : List Bool) : Co := { s with rx := xs, rm := ms, ry := ys, rn := ns }
def Co.grey (s : Co) (l : Bool) (xs : List Int) : Co := { s with gl := l, gx := xs }
abbrev Co.F0 (s : Co) : Int := 1 + 2 * s.cf.nu
abbrev Co.W0 (s : Co) : Int := s.cf.ps * s.cf.pz

section
variable {w w' : World} {P : Pos} {own : Nat → Nat → Prop} {s : Co} {b : Nat} {S : Nat → Prop}

/-- What is noted has turned. -/
theorem IsCo.remT (h : IsCo w P own s) {p p' : Pt} {xs ys : List Int} {ms ns : List Bool} (ho : ∀ k, p.own P.r k → own 4 k) (k : IsSet w' P.r p' s.cf.bf s.F0 s.W0 s.cf.cd xs ms ys ns) (m : Mv (p.own P.r) (p'.own P.r) w w') :
    CoR w P.b (fun k => ∃ j, own j k) (s.rem xs ms ys ns) w' := by
  refine h.turn 4 (P' := P) (O' := p'.own P.r) (m.frm.mono fun k _ hk => ho k hk) ⟨p', k, fun k hk => hk⟩ (fun k hk => (m.at_ k hk).imp (ho k) id) (fun j hj => k.lt hj) ?_ rfl rfl rfl
  intro i hi v O hp
  rcases i with _ | _ | _ | _ | _ | _ | _ | _ | _ | i <;> first | exact absurd rfl hi | exact hp

/-- What is noted when something is added. -/
def Co.noted (s : Co) (x : Int) : Co := if (s.ry.length : Int) < s.cf.bf then s.rem s.rx s.rm (s.ry ++ [x]) s.rn else s.rem s.rx s.rm s.ry (s.rn.set ((x - s.F0) / s.cf.cd).toNat true)

theorem radd_co (hC : Cr w b S s) (x : Int) (x0 : s.F0 ≤ x) (x1 : x < s.F0 + s.W0) :
    ∃ r : Nat, w.cell? ⟨b, 16, Option.none⟩ = some (ptr r) ∧ Calls Tryz.prog 79 #[ptr r, .int .i64 x] w fun e w' => e = .returned (.bool true) ∧ CoR w b S (s.noted x) w' := by
  obtain ⟨P, own, h0, rfl, rfl⟩ := hC
  obtain ⟨p, hp, ho⟩ := h0.prt 4
  have c0 : 1 ≤ s.cf.cd := by have := hp.card; unfold cutI at this; omega
  refine ⟨P.r, h0.cell 16, ?_⟩
  unfold Co.noted
  by_cases hn : (s.ry.length : Int) < s.cf.bf
  · rw [if_pos hn]
    exact (set_add_put (x := x) (h := hp) (x0 := x0) (x1 := x1) (hn := hn)).mono fun e w' ⟨he, p', k, m⟩ => ⟨he, h0.remT ho k m⟩
  · rw [if_neg hn]
    have hj : (x - s.F0) / s.cf.cd = (((x - s.F0) / s.cf.cd).toNat : Nat) := by
      have := Int.ediv_nonneg (show 0 ≤ x - s.F0 by omega) (show 0 ≤ s.cf.cd by omega)
      omega
    exact (set_add_mark (x := x) (h := hp) (x0 := x0) (x1 := x1) (hn := by omega) (hj := hj)).mono fun e w' ⟨he, p', k, m⟩ => ⟨he, h0.remT ho k m⟩

theorem rflip_co (hC : Cr w b S s) (hx : s.rx = []) (hm : s.rm.count true = 0) :
    ∃ r : Nat, w.cell? ⟨b, 16, Option.none⟩ = some (ptr r) ∧ Calls Tryz.prog 101 #[ptr r] w fun e w' => e = .returned (.bool true) ∧ CoR w b S (s.rem s.ry s.rn [] (List.replicate (nmI s.W0 s.cf.cd) false)) w' := by
  obtain ⟨P, own, h0, rfl, rfl⟩ := hC
  obtain ⟨p, hp, ho⟩ := h0.prt 4
  rw [hx] at hp
  exact ⟨P.r, h0.cell 16, (set_flip_yes (h := hp) (hn := hm)).mono fun e w' ⟨he, p', k, m⟩ => ⟨he, h0.remT ho k m⟩⟩

theorem rnext_buf (hC : Cr w b S s) {x : Int} {xs : List Int} (hx : s.rx = x :: xs) :
    ∃ r : Nat, w.cell? ⟨b, 16, Option.none⟩ = some (ptr r) ∧ Calls Tryz.prog 132 #[ptr r] w fun e w' => e = .returned (.tuple #[.int .i64 x, .int .i64 (x + 1), .bool false, .bool true]) ∧ CoR w b S (s.rem xs s.rm s.ry s.rn) w' := by
  obtain ⟨P, own, h0, rfl, rfl⟩ := hC
  obtain ⟨p, hp, ho⟩ := h0.prt 4
  rw [hx] at hp
  exact ⟨P.r, h0.cell 16, (set_next_buf (x := x) (h := hp)).mono fun e w' ⟨he, p', k, m⟩ => ⟨he, h0.remT ho k m⟩⟩

theorem rnext_card (hC : Cr w b S s) (j : Nat) (hx : s.rx = []) (hj : s.rm[j]? = some true) (hn : ∀ i : Nat, i < j → s.rm[i]? = some false) :
    ∃ r : Nat, w.cell? ⟨b, 16, Option.none⟩ = some (ptr r) ∧ Calls Tryz.prog 132 #[ptr r] w fun e w' => e = .returned (.tuple #[.int .i64 (s.F0 + j * s.cf.cd), .int .i64 (endI s.F0 s.W0 s.cf.cd j), .bool true, .bool true]) ∧ CoR w b S (s.rem [] (s.rm.set j false) s.ry s.rn) w' := by
  obtain ⟨P, own, h0, rfl, rfl⟩ := hC
  obtain ⟨p, hp, ho⟩ := h0.prt 4
  rw [hx] at hp
  exact ⟨P.r, h0.cell 16, (set_next_card (j := j) (h := hp) (hj := hj) (hn := hn)).mono fun e w' ⟨he, p', k, m⟩ => ⟨he, h0.remT ho k m⟩⟩

theorem rnext_none (hC : Cr w b S s) (hx : s.rx = []) (hn : ∀ i : Nat, s.rm[i]? ≠ some true) :
    ∃ r : Nat, w.cell? ⟨b, 16, Option.none⟩ = some (ptr r) ∧ Calls Tryz.prog 132 #[ptr r] w fun e w' => e = .returned (.tuple #[.int .i64 0, .int .i64 0, .bool false, .bool false]) ∧ Below w.heap.size w w' := by
  obtain ⟨P, own, h0, rfl, rfl⟩ := hC
  obtain ⟨p, hp, ho⟩ := h0.prt 4
  rw [hx] at hp
  exact ⟨P.r, h0.cell 16, set_next_none (h := hp) (hn := hn)⟩

/-- A head is written. -/
theorem setHead_co (hC : Cr w b S s) (x z p g y : Int) (f1 f2 f3 : Bool) (hg : goodB z p g y = true) (x0 : 0 ≤ x) (hl : x < s.ws.length) :
    ∃ a : Nat, w.cell? ⟨b, 13, Option.none⟩ = some (arP a) ∧ Calls Tryz.prog 76 #[arP a, .int .i64 x, hdV z p g y f1 f2 f3] w fun e w' => e = .returned (.int .i64 0) ∧ CoR w b S (s.wrote (s.ws.set x.toNat (wordI z p g y f1 f2 f3))) w' := by
  obtain ⟨P, own, h0, rfl, rfl⟩ := hC
  obtain ⟨ab, ha, oa, ob⟩ := h0.prt 1
  refine ⟨P.a, h0.cell 13, (setHead_yes _ _ _ _ ha h0.wl x z p g y f1 f2 f3 hg ⟨x0, by omega⟩).mono ?_⟩
  rintro e w1 ⟨rfl, n1⟩
  exact ⟨rfl, h0.arena oa ob n1 (by simp)⟩

/-- The other half is filled. -/
theorem bflip_co (hC : Cr w b S s) (hv : s.yv = 0) :
    ∃ y : Nat, w.cell? ⟨b, 14, Option.none⟩ = some (bpP y) ∧ Calls Tryz.prog 100 #[bpP y] w fun e w' => e = .returned (.bool true) ∧ CoR w b S (s.halves (!s.yn) 0 s.yu) w' := by
  obtain ⟨P, own, h0, rfl, rfl⟩ := hC
  obtain ⟨hb, oy⟩ := h0.prt 2
  rw [hv] at hb
  refine ⟨P.y, h0.cell 14, (bFlip_yes _ _ _ _ _ _ hb).mono ?_⟩
  rintro e w1 ⟨rfl, n1, f⟩
  exact ⟨rfl, h0.young n1 f⟩

/-- The half that is emptied is empty. -/
theorem bdrop_co (hC : Cr w b S s) :
    ∃ y : Nat, w.cell? ⟨b, 14, Option.none⟩ = some (bpP y) ∧ Calls Tryz.prog 137 #[bpP y] w fun e w' => (∃ r : Bool, e = .returned (.bool r)) ∧ CoR w b S (s.halves s.yn s.yu 0) w' := by
  obtain ⟨P, own, h0, rfl, rfl⟩ := hC
  obtain ⟨hb, oy⟩ := h0.prt 2
  refine ⟨P.y, h0.cell 14, ?_⟩
  by_cases hv : 0 < s.yv
  · refine (bDrop_yes _ _ _ _ _ _ _ hb hv).mono ?_
    rintro e w1 ⟨rfl, n1, f⟩
    exact ⟨⟨_, rfl⟩, h0.young n1 f⟩
  · have hv : s.yv = 0 := by have := hb.v0; omega
    rw [hv] at hb
    refine (bDrop_no _ _ _ _ _ _ hb).mono ?_
    rintro e w1 ⟨rfl, f⟩
    exact ⟨⟨_, rfl⟩, h0.young (hb.keep f) (Frm.of_below f)⟩
end
end Go.Proofs.YthmhehehomieiaaGreat

/- Contract of the core's Note. -/
namespace Go.Proofs.YthmhehehomieiaaGreat
open Go.RowKit

section
variable {w : World} {b : Nat} {S : Nat → Prop} {s : Co}

set_option maxHeartbeats 2000000 in
/-- What is noted stays so. -/
theorem note_had (hC : Cr w b S s) (x z p g y : Int) (f1 f3 : Bool) (x0 : 0 < x) (x1 : x ≤ 1048576) (hx : s.oldB x = true) (hw : s.ws[x.toNat]? = some (wordI z p g y f1 true f3)) (hg : goodB z p g y = true) :
    Calls Tryz.prog 30 #[ptr b, .int .i64 x] w fun e w' => e = .returned (.tuple #[]) ∧ CoR w b S s w' := by
  have HO := old_any hC x (by omega) (by omega)
  rw [hx] at HO
  have HO := Lib.hid HO
  have HH := Lib.hid (fun w1 S (c : Cr w1 b S s) => head_at c x z p g y f1 true f3 x0 (by omega) (.inr hx) hw hg)
  have K0 := Lib.hid hC
  clear hC hx hw hg
  go_enter Tryz.func30, Tryz.ntmps30
  go_wp2_with fail
  refine HO.out.mono ?_
  rintro e w1 ⟨rfl, b1⟩
  have K1 := Lib.hid (K0.out.keep b1)
  have B1 := Lib.hid b1
  clear b1 HO K0
  go_wp2_with fail
  refine (HH.out _ _ K1.out).mono ?_
  rintro e w2 ⟨rfl, r2⟩
  have R2 := Lib.hid ((CoR.pre B1.out r2).post ((Below.refl _ w2).alloc (Nat.le_refl _) (.cells #[.int .i64 z, .int .i64 p, .int .i64 g, .int .i64 y, .bool f1, .bool true, .bool f3] 93)))
  clear r2 HH K1 B1
  go_wp2
  first | go_end0 | refine bodyPost_ret (results_none rfl _ _ _) rfl ?_
  exact ⟨rfl, R2.out⟩

set_option maxHeartbeats 4000000 in
set_option maxRecDepth 100000 in
/-- What was not noted is. -/
theorem note_new (hC : Cr w b S s) (x z p g y : Int) (f1 f3 : Bool) (x0 : s.F0 ≤ x) (x1 : x ≤ 1048576) (x2 : x < s.F0 + s.W0) (n0 : 0 ≤ s.cf.nu) (hx : s.oldB x = true) (hw : s.ws[x.toNat]? = some (wordI z p g y f1 false f3)) (hg : goodB z p g y = true) :
    Calls Tryz.prog 30 #[ptr b, .int .i64 x] w fun e w' => e = .returned (.tuple #[]) ∧ CoR w b S ((s.wrote (s.ws.set x.toNat (wordI z p g y f1 true f3))).noted x) w' := by
  have hp : 0 < x := by have : s.F0 = 1 + 2 * s.cf.nu := rfl; omega
  have hl : x < s.ws.length := by have := (List.getElem?_eq_some_iff.1 hw).1; omega
  have HO := old_any hC x (by omega) (by omega)
  rw [hx] at HO
  have HO := Lib.hid HO
  have HH := Lib.hid (fun w1 S (c : Cr w1 b S s) => head_at c x z p g y f1 false f3 hp (by omega) (.inr hx) hw hg)
  have HS := Lib.hid (fun w1 S (c : Cr w1 b S s) => setHead_co c x z p g y f1 true f3 hg (by omega) hl)
  have HA := Lib.hid (fun w1 S (c : Cr w1 b S (s.wrote (s.ws.set x.toNat (wordI z p g y f1 true f3)))) => radd_co c x x0 x2)
  have K0 := Lib.hid hC.way
  have C0 := Lib.hid hC
  clear hC hx hw hg x0 x2 n0 hp hl
  go_enter Tryz.func30, Tryz.ntmps30
  go_wp2_with fail
  refine HO.out.mono ?_
  rintro e w1 ⟨rfl, b1⟩
  have K1 := Lib.hid (K0.out.keep b1)
  clear b1 HO K0 C0
  go_wp2_with fail
  refine (K1.out.call fun S c => HH.out _ S c).mono ?_
  rintro e w2 ⟨rfl, k2, _⟩
  have K3 := Lib.hid (k2.box (.cells #[.int .i64 z, .int .i64 p, .int .i64 g, .int .i64 y, .bool f1, .bool false, .bool f3] 93))
  have z3 := Blk.new w2 #[.int .i64 z, .int .i64 p, .int .i64 g, .int .i64 y, .bool f1, .bool false, .bool f3] 93
  clear k2 HH K1
  go_upto_region 2 with (fail)
  generalize w2.alloc (.cells #[.int .i64 z, .int .i64 p, .int .i64 g, .int .i64 y, .bool f1, .bool false, .bool f3] 93) = w3 at *
  generalize w2.heap.size = hb at *
  have Z3 := Lib.hid z3
  obtain ⟨d0, d1, d2, d3, d4, d5, d6, df⟩ := z3.seven
  have lt := z3.lt
  clear z3
  go_upto_region 4 with (fail)
  clear d0 d1 d2 d3 d4 d5 d6 df lt
  have z4 := Z3.out.set_ 5 (.bool true)
  simp only [List.setIfInBounds_toArray, List.set_cons_zero, List.set_cons_succ] at z4
  have Z4 := Lib.hid z4
  have K4 := Lib.hid (K3.out.write ((Frm.refl (fun k => k = hb) w3).setCell (p := ⟨hb, 5, none⟩) (fun _ => rfl) (.bool true)) fun k e => .inr e)
  generalize w3.setCell ⟨hb, 5, none⟩ (.bool true) = w4 at *
  clear K3 Z3 z4
  obtain ⟨d0, d1, d2, d3, d4, d5, d6, df⟩ := Z4.out.seven
  have lt := Z4.out.lt
  have K5 := Lib.hid (K4.out.keep (below_drew w4))
  obtain ⟨S5, c5, m5, n5⟩ := K5.out.is
  obtain ⟨a, e13, hm⟩ := HS.out _ S5 c5
  have c13 : w4.cell? ⟨b, 13, Option.none⟩ = some (arP a) := e13
  have HM := Lib.hid hm
  have M5 := Lib.hid m5
  have N5 := Lib.hid n5
  clear c5 m5 n5 hm K4 Z4 e13 HS
  go_still_tail 6, (by kernel_rfl)
  change wpList _ _ _ _ _ w4.drew
  clear d0 d1 d2 d3 d4 d5 d6 df c13 lt
  go_wp2_with fail
  refine HM.out.mono ?_
  rintro e w6 ⟨rfl, r6⟩
  obtain ⟨k6, _⟩ := K5.out.after M5.out N5.out r6
  have K6 := Lib.hid k6
  obtain ⟨S6, c6, m6, n6⟩ := K6.out.is
  obtain ⟨r, c16, ha⟩ := HA.out _ S6 c6
  have HR := Lib.hid ha
  have M6 := Lib.hid m6
  have N6 := Lib.hid n6
  clear k6 r6 c6 m6 n6 ha K5 HM M5 N5 HA
  go_wp2_with fail
  refine HR.out.mono ?_
  rintro e w7 ⟨rfl, r7⟩
  obtain ⟨k7, _⟩ := K6.out.after M6.out N6.out r7
  have K7 := Lib.hid k7
  clear k7 r7 K6 HR M6 N6 c16
  go_wp2
  first | go_end0 | refine bodyPost_ret (results_none rfl _ _ _) rfl ?_
  exact ⟨rfl, K7.out.done⟩
end
end Go.Proofs.YthmhehehomieiaaGreat

/- An object whose references are gone through, and is noted: what a core and its objects keep. -/
namespace Go.Proofs.YthmhehehomieiaaGreat
namespace Gc
open Go.RowKit

/-- Objects have left, and of what stands elsewhere only p was written to; it may have been noted. -/
structure Fol (p : Int) (A B : Hp) : Prop where
  E : B.E = A.E
  hs : B.hs = A.hs
  k : B.k = A.k
  X : B.X = A.X
  Y : ∀ q, A.Y q → B.Y q
  D : B.D = A.D
  F : ∃ l, B.F = A.F ++ l
  O : ∃ l, B.O = A.O ++ l ∧ B.row = A.row ++ l
  ob : ∀ q o, q ∉ A.E → q ≠ p → A.ob q = some o → B.ob q = some o
  obE : ∀ q o, q ∈ A.E → A.ob q = some o → ∃ y, B.ob q = some { o with way := y }
  rep : ∀ G f, Rep A G f → ∃ f', Rep B G f'
  sz : ∀ q o, A.ob q = some o → ∃ v, B.ob q = some v ∧ v.sz = o.sz
  few : B.row.length + B.F.length + 2 * B.un.length ≤ A.row.length + A.F.length + 2 * A.un.length

theorem Mvd.fol {A B : Hp} (h : Mvd A B) (p : Int) : Fol p A B :=
  { E := h.E, hs := h.hs, k := h.k, X := h.X, Y := fun q e => by rw [h.Y]; exact e, D := h.D, F := h.F, O := h.O, ob := fun q o e _ => h.ob q o e, obE := h.obE, rep := h.rep, few := h.few
    sz := fun q o ho => by
      by_cases e : q ∈ A.E
      · obtain ⟨y, hy⟩ := h.obE q o e ho
        exact ⟨_, hy, rfl⟩
      · exact ⟨o, h.ob q o e ho, rfl⟩ }
theorem Fol.refl (p : Int) (A : Hp) : Fol p A A := (Mvd.refl A).fol p
theorem Fol.trans {p : Int} {A B C : Hp} (h : Fol p A B) (k : Fol p B C) : Fol p A C := by
  obtain ⟨l1, f1⟩ := h.F
  obtain ⟨l2, f2⟩ := k.F
  obtain ⟨m1, o1, r1⟩ := h.O
  obtain ⟨m2, o2, r2⟩ := k.O
  exact
    { E := k.E.trans h.E, hs := k.hs.trans h.hs, k := k.k.trans h.k, X := k.X.trans h.X, Y := fun q e => k.Y q (h.Y q e), D := k.D.trans h.D
      F := ⟨l1 ++ l2, by rw [f2, f1, List.append_assoc]⟩
      O := ⟨m1 ++ m2, by rw [o2, o1, List.append_assoc], by rw [r2, r1, List.append_assoc]⟩
      ob := fun q o hq hn ho => k.ob q o (by rw [h.E]; exact hq) hn (h.ob q o hq hn ho)
      obE := fun q o hq ho => by
        obtain ⟨y, e⟩ := h.obE q o hq ho
        obtain ⟨z, e⟩ := k.obE q _ (by rw [h.E]; exact hq) e
        exact ⟨z, e⟩
      rep := fun G f r => by
        obtain ⟨f', r⟩ := h.rep G f r
        exact k.rep G f' r
      sz := fun q o ho => by
        obtain ⟨v, h1, h2⟩ := h.sz q o ho
        obtain ⟨u, h3, h4⟩ := k.sz q v h1
        exact ⟨u, h3, h4.trans h2⟩
      few := Nat.le_trans k.few h.few }

section
variable {A : Hp} {x : Int} {s : Co} {w : World} {b : Nat} {S : Nat → Prop}

theorem put_un {p : Int} {o o' : Ob} (ho : A.ob p = some o) (hw : o'.way = o.way) : (A.put p o').un = A.un := by
  unfold Hp.un
  rw [put_now ho hw]
  rfl

theorem Fol.put {p : Int} {o o' : Ob} (ho : A.ob p = some o) (hp : p ∉ A.E) (hw : o'.way = o.way) (hr : o'.rs.map A.now = o.rs.map A.now) (hs : o'.ss = o.ss) : Fol p A (A.put p o') := by
  have mob : ∀ y, (A.put p o').ob y = upd A.ob p o' y := fun _ => rfl
  exact
    { E := rfl, hs := rfl, k := rfl, X := rfl, Y := fun q e => e, D := rfl, F := ⟨[], by simp [Hp.put]⟩, O := ⟨[], by simp [Hp.put], by simp [Hp.put]⟩
      ob := fun q v _ hn hv => by rw [mob, upd_ne hn]; exact hv
      obE := fun q v hq hv => ⟨v.way, by rw [mob, upd_ne (by rintro rfl; exact hp hq)]; exact hv⟩
      rep := fun G f r => ⟨f, r.put ho hw hr hs⟩
      sz := fun q v hv => by
        by_cases e : q = p
        · subst e
          rw [ho] at hv; cases hv
          refine ⟨o', by rw [mob, upd_self], ?_⟩
          have := congrArg List.length hr
          rw [List.length_map, List.length_map] at this
          unfold Ob.sz Ob.n
          rw [this, hs]
        · exact ⟨v, by rw [mob, upd_ne e]; exact hv, rfl⟩
      few := by rw [put_un ho hw]; exact Nat.le_refl _ }

/-- An object's words were written. -/
theorem Sim.put (h : Sim s A) {p : Int} {o o' : Ob} {vs : List Int} (ho : A.ob p = some o) (hz : o'.sz = o.sz) (hw : o'.way = o.way) (hl : vs.length = s.ws.length) (lies : Lies vs (A.put p o')) : Sim (s.wrote vs) (A.put p o') :=
  { laid := h.laid.put ho hz hw hl lies
    hs := h.hs, row := h.row, par := h.par, X := h.X, Y := h.Y, pl := h.pl, beg := h.beg
    cop := by rw [put_rest ho hz hw]; exact h.cop
    few := by rw [put_un ho hw]; exact h.few }

theorem Same.wrote (s : Co) (vs : List Int) : Same s (s.wrote vs) := ⟨rfl, rfl, rfl, rfl, rfl, rfl, rfl, rfl, rfl, rfl, rfl, rfl, rfl, rfl, rfl, rfl, rfl, rfl, rfl, Int.le_refl _⟩

/-- How a reference is gone through. -/
def Referred (w : World) (b : Nat) (S : Nat → Prop) (s : Co) (x p : Int) (A : Hp) (o : Ob) (n : Nat) (e : Ending) (w' : World) : Prop :=
  ∃ s' B r, e = .returned (.int .i64 r) ∧ CoR w b S s' w' ∧ Sim s' B ∧ Inv x B ∧ SameT s A s' B ∧ Fol p A B ∧ B.ob p = some { o with rs := o.rs.set n r } ∧ r ∉ B.E ∧ B.ok r ∧ RefD s A p n s' B r

set_option maxHeartbeats 4000000 in
theorem refer_sim (hC : Cr w b S s) (h : Sim s A) (i : Inv x A) (hx : x = 0 ∨ ∃ v, A.ob x = some v) {p r0 : Int} {o : Ob} (ho : A.ob p = some o) (hp : p ∉ A.E) (hO : p ∈ A.O → p = x) {n : Nat} (hn : o.rs[n]? = some r0) :
    Calls Tryz.prog 172 #[ptr b, .int .i64 p, .int .i64 n] w (Referred w b S s x p A o n) := by
  have wl := hC.wl
  have at_ := h.laid.lies.at_ p o ho
  have gd := (goodB_iff ..).1 at_.good
  have p0 := i.ob_pos ho
  have nl := (List.getElem?_eq_some_iff.1 hn).1
  have n64 : (n : Int) < 64 := by omega
  have fit := at_.fit
  have r0k := i.ref p o ho r0 (List.mem_of_getElem? hn)
  have rb := h.bound i wl r0k
  have hw : s.ws[(p + (2 + (n : Int))).toNat]? = some r0 := by
    have := at_.body n r0 (by rw [List.getElem?_append_left nl]; exact hn)
    rwa [show (p + (2 + (n : Int))).toNat = p.toNat + 2 + n by omega]
  -- what the walk is told of the calls
  obtain ⟨a1, c13, H1⟩ := field_co hC p n r0 (by omega) n64 (by omega) hw
  have H1 := Lib.hid H1
  have HM := Lib.hid (fun w1 S1 (c : Cr w1 b S1 s) => move_sim c h i r0k)
  have e0 : (o.sz : Int) = o.n + 2 := by show ((o.n + 2 : Nat) : Int) = _; omega
  have en : o.n = o.rs.length + o.ss.length := rfl
  have fin : Hid (∀ (w1 w2 : World) (s1 : Co) (B : Hp) (r : Int), MoveD s A r0 s1 B r → Sim s1 B → Same s s1 → CoR w b S s1 w1 → (r = r0 → Referred w b S s x p A o n (.returned (.int .i64 r)) w1) ∧
      ((p + (2 + (n : Int))).toNat < s1.ws.length ∧ 0 ≤ r ∧ r ≤ 1048576) ∧ (r ≠ r0 → CoR w b S (s1.wrote (s1.ws.set (p + (2 + (n : Int))).toNat r)) w2 → Referred w b S s x p A o n (.returned (.int .i64 r)) w2)) := Lib.hid (by
    intro w1 w2 s1 B r m h1 sm cr
    obtain ⟨i1, mv, rk, rE, rn, _⟩ := m.r.keeps i hx r0k
    have ho1 := mv.ob p o hp ho
    have why : r0 ∈ A.hs ∨ ∃ u v, u ∉ A.E ∧ A.ob u = some v ∧ r0 ∈ v.rs := .inr ⟨p, o, hp, ho, List.mem_of_getElem? hn⟩
    have hp1 : p ∉ B.E := by rw [mv.E]; exact hp
    have at1 := h1.laid.lies.at_ p o ho1
    have fit1 := at1.fit
    have hO1 : p ∈ B.O → p = x := fun e => by
      rcases (i.dom p).1 ⟨o, ho⟩ with z | z | z
      · obtain ⟨l, hl⟩ := mv.F
        exact absurd e (i1.fo p (by rw [hl]; exact List.mem_append_left _ z))
      · exact absurd z hp
      · exact hO z
    obtain ⟨i2, rp⟩ := i1.refer ho1 hO1 hn rn rE rk
    have now' : (o.rs.set n r).map B.now = o.rs.map B.now := by
      rw [List.map_set, show B.now r = r from Hp.now_no rE, ← rn]
      have : (o.rs.map B.now)[n]? = some (B.now r0) := by rw [List.getElem?_map, hn]; rfl
      exact set_same this
    have fo : Fol p A (B.put p { o with rs := o.rs.set n r }) := (mv.fol p).trans (.put ho1 hp1 rfl now' rfl)
    have fn : p.toNat + 2 + n = (p + (2 + (n : Int))).toNat := by omega
    have ob' : (B.put p { o with rs := o.rs.set n r }).ob p = some { o with rs := o.rs.set n r } := upd_self
    have sz' : ({ o with rs := o.rs.set n r } : Ob).sz = o.sz := by unfold Ob.sz Ob.n; simp
    have h2 := h1.laid.lies.refer ho1 n nl r
    have rb := h1.bound i1 (let ⟨_, c, _⟩ := cr; c.wl) rk
    refine ⟨fun er => ?_, ⟨by omega, rb⟩, fun ne cr2 => ?_⟩
    · subst er
      have es : o.rs.set n r = o.rs := set_same hn
      refine ⟨s1, B, r, rfl, cr, h1, i1, sm.t (.move i why m), mv.fol p, ?_, rE, rk, .same ho hn m⟩
      rw [es]; exact ho1
    · rw [fn] at h2
      exact ⟨_, _, r, rfl, cr2, h1.put ho1 sz' rfl (by simp) h2, i2, (sm.trans (Same.wrote _ _)).t (.trans (.move i why m) (.put hp1 ho1 rfl rfl rfl now')), fo, ob', rE, rk, .set ho hn m ne⟩)
  clear hC h i hx ho hp hO hn wl at_ gd nl fit r0k hw en e0
  go_enter Tryz.func172, Tryz.ntmps172
  go_wp2_with fail
  refine H1.out.mono ?_
  rintro e w1 ⟨rfl, S1, q1, m1⟩
  have C1 := Lib.hid q1
  have M1 := Lib.hid m1
  clear q1 m1 H1 c13
  go_wp2_with fail
  refine (HM.out _ S1 C1.out).mono ?_
  rintro e w2 ⟨s1, B, r, rfl, cr, m, h1, sm⟩
  obtain ⟨S2, q2, m2⟩ := cr
  have F2 := Lib.hid (fun w3 => fin.out w2 w3 s1 B r m h1 sm ⟨S2, q2, M1.out.trans m2⟩)
  have M2 := Lib.hid (M1.out.trans m2)
  obtain ⟨_, ⟨lw, rb0, rb1⟩, _⟩ := F2.out w2
  obtain ⟨a2, c13, H3⟩ := setField_co q2 p n r (by omega) n64 (by omega) lw
  have H3 := Lib.hid H3
  clear q2 m2 m h1 sm fin M1 HM C1 lw
  by_cases er : r = r0
  · have RE := Lib.hid ((F2.out w2).1 er)
    clear F2 M2 H3 c13
    go_wp2
    go_ret
    have re := RE.out
    rw [er] at re
    exact re
  · go_wp2_with fail
    refine H3.out.mono ?_
    rintro e w3 ⟨rfl, S3, q3, m3⟩
    have RE := Lib.hid ((F2.out w3).2.2 er ⟨S3, q3, M2.out.trans m3⟩)
    clear F2 M2 H3 c13 q3 m3
    go_wp2
    go_ret
    exact RE.out
end
end Gc
end Go.Proofs.YthmhehehomieiaaGreat

/- Note, of a core and its objects. -/
namespace Go.Proofs.YthmhehehomieiaaGreat
namespace Gc
open Go.RowKit

/-- What notes and moves leave alone. -/
structure Near (s s' : Co) : Prop where
  cf : s'.cf = s.cf
  yn : s'.yn = s.yn
  yv : s'.yv = s.yv
  ps : s'.ps = s.ps
  rx : s'.rx = s.rx
  rm : s'.rm = s.rm
  gl : s'.gl = s.gl
  gx : s'.gx = s.gx
  hs : s'.hs = s.hs
  par : s'.par = s.par
  ph : s'.ph = s.ph
  mv : s'.mv = s.mv
  scan : s'.scan = s.scan
  look : s'.look = s.look
  mi : s'.d.mi = s.d.mi
  al : (s'.d.al, s'.d.wd) = (s.d.al, s.d.wd)
  pt : s'.pt = s.pt
  gr : s'.tot ≤ s.tot

theorem Near.nums {s s' : Co} (h : Near s s') : nums s' = nums s := by
  have e := h.al
  injection e with e1 e2
  unfold Gc.nums
  rw [h.mi, e1, e2]
theorem Near.refl (s : Co) : Near s s := ⟨rfl, rfl, rfl, rfl, rfl, rfl, rfl, rfl, rfl, rfl, rfl, rfl, rfl, rfl, rfl, rfl, rfl, Int.le_refl _⟩
theorem Near.trans {s t u : Co} (h : Near s t) (k : Near t u) : Near s u :=
  ⟨k.cf.trans h.cf, k.yn.trans h.yn, k.yv.trans h.yv, k.ps.trans h.ps, k.rx.trans h.rx, k.rm.trans h.rm, k.gl.trans h.gl, k.gx.trans h.gx, k.hs.trans h.hs, k.par.trans h.par, k.ph.trans h.ph, k.mv.trans h.mv, k.scan.trans h.scan, k.look.trans h.look, k.mi.trans h.mi, k.al.trans h.al, k.pt.trans h.pt, Int.le_trans k.gr h.gr⟩
theorem Same.near {s t : Co} (h : Same s t) : Near s t := ⟨h.cf, h.yn, h.yv, h.ps, h.rx, h.rm, h.gl, h.gx, h.hs, h.par, h.ph, h.mv, h.scan, h.look, h.mi, h.al, h.pt, h.gr⟩
structure NearT (s : Co) (A : Hp) (s' : Co) (B : Hp) : Prop extends Near s s' where
  tr : Prims s A s' B
theorem Near.t {s s' : Co} {A B : Hp} (h : Near s s') (tr : Prims s A s' B) : NearT s A s' B := ⟨h, tr⟩
theorem NearT.refl (s : Co) {A : Hp} : NearT s A s A := ⟨.refl s, .refl s A⟩
theorem NearT.trans {s t u : Co} {A B C : Hp} (h : NearT s A t B) (k : NearT t B u C) : NearT s A u C := ⟨h.toNear.trans k.toNear, h.tr.trans k.tr⟩
theorem SameT.near {s t : Co} {A B : Hp} (h : SameT s A t B) : NearT s A t B := ⟨h.toSame.near, h.tr⟩
theorem Near.noted (s : Co) (x : Int) : Near s (s.noted x) := by
  unfold Co.noted
  split <;> exact ⟨rfl, rfl, rfl, rfl, rfl, rfl, rfl, rfl, rfl, rfl, rfl, rfl, rfl, rfl, rfl, rfl, rfl, Int.le_refl _⟩

section
variable {A : Hp} {s : Co} {w : World} {b : Nat} {S : Nat → Prop}

theorem noted_fields (s : Co) (x : Int) : (s.noted x).ws = s.ws ∧ (s.noted x).yu = s.yu ∧ (s.noted x).pgs = s.pgs ∧ (s.noted x).row = s.row ∧ (s.noted x).cop = s.cop ∧ (s.noted x).wi = s.wi := by
  unfold Co.noted
  split <;> exact ⟨rfl, rfl, rfl, rfl, rfl, rfl⟩

/-- How many marks there are. -/
theorem _root_.Go.Proofs.YthmhehehomieiaaGreat.Cr.marks (hC : Cr w b S s) : (s.rn.length : Int) = (s.W0 + s.cf.cd - 1) / s.cf.cd ∧ 1 ≤ s.cf.cd := by
  obtain ⟨P, own, h0, rfl, rfl⟩ := hC
  obtain ⟨p, hp, ho⟩ := h0.prt 4
  obtain ⟨mb, ht, _⟩ := hp.rest.tab
  exact ⟨ht.len, ht.c0⟩

theorem mark_in {F W C x : Int} (c0 : 1 ≤ C) (x0 : F ≤ x) (x1 : x < F + W) : 0 ≤ (x - F) / C ∧ (x - F) / C < (W + C - 1) / C := by
  refine ⟨Int.ediv_nonneg (by omega) (by omega), ?_⟩
  have e : (W + C - 1) / C = (W - 1) / C + 1 := by
    rw [show W + C - 1 = (W - 1) + 1 * C by omega, Int.add_mul_ediv_right _ _ (by omega)]
  rw [e]
  have := Int.ediv_le_ediv (a := x - F) (b := W - 1) (c := C) (by omega) (by omega)
  omega

/-- What is added is to be looked at later. -/
theorem cov_noted (hC : Cr w b S s) {x : Int} (x0 : s.F0 ≤ x) (x1 : x < s.F0 + s.W0) (q : Int) : (Cov s.F0 s.cf.cd s.ry s.rn q → Cov s.F0 s.cf.cd (s.noted x).ry (s.noted x).rn q) ∧ Cov s.F0 s.cf.cd (s.noted x).ry (s.noted x).rn x := by
  obtain ⟨hl, c0⟩ := hC.marks
  obtain ⟨j0, j1⟩ := mark_in c0 x0 x1
  unfold Co.noted
  by_cases hn : (s.ry.length : Int) < s.cf.bf
  · rw [if_pos hn]
    exact ⟨fun h => h.imp (fun e => List.mem_append_left _ e) id, .inl (List.mem_append_right _ (by simp))⟩
  · rw [if_neg hn]
    have jl : ((x - s.F0) / s.cf.cd).toNat < s.rn.length := by omega
    refine ⟨fun h => h.imp id fun e => ?_, .inr ?_⟩
    · show (s.rn.set _ true)[_]? = some true
      rw [List.getElem?_set]
      split
      · rfl
      · exact e
    · show (s.rn.set _ true)[_]? = some true
      rw [List.getElem?_set, if_pos rfl, if_pos jl]

/-- Note, of a core and its objects. -/
inductive NoteD (s : Co) (A : Hp) (p : Int) : Co → Hp → Prop
  | had {o : Ob} : A.ob p = some o → o.noted = true → NoteD s A p s A
  | new {o : Ob} : A.ob p = some o → o.noted = false → NoteD s A p ((s.wrote (s.ws.set p.toNat (wordI (o.n : Nat) o.rs.length o.age o.par o.grey true true))).noted p) (Hp.put { A with Y := fun q => A.Y q ∨ q = p } p { o with noted := true })

/-- How an object is noted. -/
def Noted (w : World) (b : Nat) (S : Nat → Prop) (s : Co) (p : Int) (A : Hp) (o : Ob) (e : Ending) (w' : World) : Prop :=
  ∃ s' B, e = .returned (.tuple #[]) ∧ CoR w b S s' w' ∧ Sim s' B ∧ Inv 0 B ∧ NearT s A s' B ∧ Fol p A B ∧ (B.F = A.F ∧ B.row = A.row) ∧ B.ob p = some { o with noted := true } ∧ (o.noted = true ∨ B.Y p) ∧ NoteD s A p s' B

theorem note_sim (hC : Cr w b S s) (h : Sim s A) {p : Int} (i : Inv p A) (hp : p ∈ A.O) {o : Ob} (ho : A.ob p = some o) (hE : ∀ r ∈ o.rs, r ∈ A.E → p ∈ A.row ∨ A.X p) :
    Calls Tryz.prog 30 #[ptr b, .int .i64 p] w (Noted w b S s p A o) := by
  have wl := hC.wl
  have at_ := h.laid.lies.at_ p o ho
  have eO : decide (p ∈ A.O) = true := decide_eq_true hp
  rw [eO] at at_
  have p0 := i.ob_pos ho
  have bp := h.bound i wl (i.ob_ok ho)
  have hold := (h.old_iff p).2 hp
  obtain ⟨c, hc, ec⟩ := (h.laid.old p).1 hp
  have sp := used_span h.laid.g0 h.laid.wf hc
  rw [ec] at sp
  have fit := h.laid.fit c hc o (by rw [ec]; exact ho)
  have z2 := sz_two o
  have gd := (goodB_iff ..).1 at_.good
  have hw0 : s.W0 = s.pgs.length * s.cf.pz := by show s.cf.ps * s.cf.pz = _; rw [h.pl]
  have hf0 : s.F0 = 1 + 2 * s.cf.nu := rfl
  have pE : p ∉ A.E := fun e => i.eo p e hp
  cases no : o.noted
  · have hw := at_.head
    unfold Ob.word at hw
    rw [no] at hw
    refine (note_new hC p _ _ _ _ _ _ (by omega) bp.2 (by omega) h.laid.n0 hold hw at_.good).mono ?_
    rintro e w' ⟨rfl, r⟩
    have hh := h.laid.lies.head ho o.age o.par o.grey true (by omega) (by omega) (by omega) (by omega)
    rw [eO] at hh
    have s1 := h.put (o' := { o with noted := true }) ho rfl rfl (by simp) hh
    have i1 : Inv p { A with Y := fun q => A.Y q ∨ q = p } := i.more (fun q e => .inl e) fun q e => e.elim (fun z => i.xo q (.inr z)) fun z => z ▸ hp
    have i2 := i1.put (o' := { o with noted := true }) ho rfl (i.ref p o ho) (fun _ n => absurd rfl n) (fun _ => ⟨hp, .inr (.inr rfl)⟩) (fun e => absurd hp (i.fo p (List.mem_of_mem_take e)))
    have i3 : Inv 0 (Hp.put { A with Y := fun q => A.Y q ∨ q = p } p { o with noted := true }) := i2.strong fun v _ hv r hr => by
      rw [show (Hp.put { A with Y := fun q => A.Y q ∨ q = p } p { o with noted := true }).ob p = some { o with noted := true } from upd_self] at hv
      cases hv
      exact ⟨fun _ => .inl rfl, fun e => (hE r hr e).imp id fun z => ⟨rfl, z⟩⟩
    have fo : Fol p A (A.put p { o with noted := true }) := .put ho pE rfl rfl rfl
    obtain ⟨f1, f2, f3, f4, f5, f6⟩ := noted_fields (s.wrote (s.ws.set p.toNat (wordI (o.n : Nat) o.rs.length o.age o.par o.grey true true))) p
    have nn := Near.noted (s.wrote (s.ws.set p.toNat (wordI (o.n : Nat) o.rs.length o.age o.par o.grey true true))) p
    obtain ⟨S', c', m'⟩ := r
    have cv := fun q => cov_noted (s := s) hC (x := p) (by omega) (by omega) q
    have ery : ((s.wrote (s.ws.set p.toNat (wordI (o.n : Nat) o.rs.length o.age o.par o.grey true true))).noted p).ry = (s.noted p).ry ∧ ((s.wrote (s.ws.set p.toNat (wordI (o.n : Nat) o.rs.length o.age o.par o.grey true true))).noted p).rn = (s.noted p).rn := by
      unfold Co.noted
      show (if (s.ry.length : Int) < s.cf.bf then _ else _ : Co).ry = _ ∧ (if (s.ry.length : Int) < s.cf.bf then _ else _ : Co).rn = _
      split <;> exact ⟨rfl, rfl⟩
    refine ⟨_, Hp.put { A with Y := fun q => A.Y q ∨ q = p } p { o with noted := true }, rfl, ⟨S', c', m'⟩, ?_, i3, ((Same.wrote s _).near.trans nn).t (.trans (.put (o' := { o with noted := true }) pE ho rfl rfl rfl rfl) (.side nn.cf f3 nn.ps rfl rfl rfl rfl rfl)), ?_, ⟨rfl, rfl⟩, upd_self, .inr (.inr rfl), .new ho no⟩
    · exact
        { laid := by rw [nn.cf, nn.yn, f2, nn.yv, f3, f1]; exact (s1.laid.side rfl rfl rfl rfl)
          hs := by rw [nn.hs]; exact h.hs
          row := by rw [f4]; exact h.row
          par := by rw [nn.par]; exact h.par
          pl := by rw [f3, nn.cf]; exact h.pl
          cop := by rw [f5, nn.yv]; exact s1.cop
          few := by rw [nn.cf]; exact s1.few
          beg := fun q e => by rw [f6]; exact h.beg q e
          X := fun q e => by rw [nn.cf, nn.rx, nn.rm]; exact h.X q e
          Y := fun q e => by
            rw [nn.cf, ery.1, ery.2]
            rcases e with e | rfl
            · exact (cv q).1 (h.Y q e)
            · exact (cv q).2 }
    · exact { fo with Y := fun q e => .inl e, rep := fun G f r => let ⟨f', r'⟩ := fo.rep G f r; ⟨f', r'.side rfl rfl rfl⟩ }
  · have hw := at_.head
    unfold Ob.word at hw
    rw [no] at hw
    refine (note_had hC p _ _ _ _ _ _ p0 bp.2 hold hw at_.good).mono ?_
    rintro e w' ⟨rfl, r⟩
    refine ⟨s, A, rfl, r, h, i.strong fun v _ hv r hr => ?_, .refl s, .refl p A, ⟨rfl, rfl⟩, by rw [ho]; congr 1; cases o; simp only at no; subst no; rfl, .inl no, .had ho no⟩
    rw [ho] at hv; cases hv
    exact ⟨fun _ => .inl no, fun e => (hE r hr e).imp id fun z => ⟨no, z⟩⟩
end
end Gc
end Go.Proofs.YthmhehehomieiaaGreat

/- Objects followed, noted, gone through in a part: what they come to hangs on the core and its objects alone. -/
namespace Go.Proofs.YthmhehehomieiaaGreat
namespace Gc
section
variable {s t t' u : Co} {A B B' C : Hp} {p r r' : Int} {P : Pts}

/-- The first references of an object are gone through; was there a young one among them? -/
inductive FolD (s : Co) (A : Hp) (p : Int) : Nat → Co → Hp → Bool → Prop
  | zero : FolD s A p 0 s A false
  | succ {n : Nat} {t t' : Co} {B B' : Hp} {y : Bool} {r : Int} : FolD s A p n t B y → RefD t B p n t' B' r → FolD s A p (n + 1) t' B' (inH (hAt t'.cf.nu 1 t'.yn) t'.yu r || y)

theorem FolD.re {n : Nat} {y : Bool} (m : FolD s A p n t B y) (P : Pts) : FolD (s.re P) A p n (t.re P) B y := by
  induction m with
  | zero => exact .zero
  | succ _ h ih => exact .succ ih (h.re P)
theorem FolD.one {n : Nat} {y : Bool} (m : FolD s A p n t B y) : ∀ {t' : Co} {B' : Hp} {y' : Bool}, FolD s A p n t' B' y' → t' = t ∧ B' = B ∧ y' = y := by
  induction m with
  | zero => intro t' B' y' k; cases k; exact ⟨rfl, rfl, rfl⟩
  | succ _ h ih =>
    intro t' B' y' k
    cases k with
    | succ k1 h1 =>
      obtain ⟨rfl, rfl, rfl⟩ := ih k1
      obtain ⟨rfl, rfl, rfl⟩ := h.one h1
      exact ⟨rfl, rfl, rfl⟩

theorem noted_re (s : Co) (x : Int) (P : Pts) : (s.re P).noted x = (s.noted x).re P := by
  unfold Co.noted
  show (if (s.ry.length : Int) < s.cf.bf then _ else _) = _
  split <;> rfl
theorem NoteD.re (m : NoteD s A p t B) (P : Pts) : NoteD (s.re P) A p (t.re P) B := by
  cases m with
  | had ho hn => exact .had ho hn
  | new ho hn =>
    rw [← noted_re]
    exact .new (s := s.re P) ho hn
theorem NoteD.one (m : NoteD s A p t B) (k : NoteD s A p t' B') : t' = t ∧ B' = B := by
  cases m with
  | had ho hn =>
    cases k with
    | had _ _ => exact ⟨rfl, rfl⟩
    | new ho' hn' => rw [ho] at ho'; cases ho'; rw [hn] at hn'; cases hn'
  | new ho hn =>
    cases k with
    | had ho' hn' => rw [ho] at ho'; cases ho'; rw [hn] at hn'; cases hn'
    | new ho' hn' => rw [ho] at ho'; cases ho'; exact ⟨rfl, rfl⟩

/-- An object is followed. -/
inductive FoD (s : Co) (A : Hp) (p : Int) : Co → Hp → Prop
  | plain {o : Ob} {y : Bool} {t : Co} {B : Hp} : A.ob p = some o → FolD s A p o.rs.length t B y → (p ∈ A.O → y = false) → FoD s A p t B
  | note {o : Ob} {t t' : Co} {B B' : Hp} : A.ob p = some o → FolD s A p o.rs.length t B true → p ∈ A.O → NoteD t B p t' B' → FoD s A p t' B'

theorem FoD.re (m : FoD s A p t B) (P : Pts) : FoD (s.re P) A p (t.re P) B := by
  cases m with
  | plain ho f h => exact .plain ho (f.re P) h
  | note ho f h n => exact .note ho (f.re P) h (n.re P)
theorem FoD.one (m : FoD s A p t B) (k : FoD s A p t' B') : t' = t ∧ B' = B := by
  cases m with
  | plain ho f h =>
    cases k with
    | plain ho' f' _ =>
      rw [ho] at ho'; cases ho'
      obtain ⟨rfl, rfl, _⟩ := f.one f'
      exact ⟨rfl, rfl⟩
    | note ho' f' h' _ =>
      rw [ho] at ho'; cases ho'
      have e := (f.one f').2.2
      rw [h h'] at e
      cases e
  | note ho f h n =>
    cases k with
    | plain ho' f' h' =>
      rw [ho] at ho'; cases ho'
      have e := (f.one f').2.2
      rw [h' h] at e
      cases e
    | note ho' f' _ n' =>
      rw [ho] at ho'; cases ho'
      obtain ⟨rfl, rfl, _⟩ := f.one f'
      exact n.one n'

/-- Objects of a part, one behind the other: those that are noted are followed; how many words that were. -/
inductive PartD : List Int → Co → Hp → Int → Co → Hp → Prop
  | nil {s : Co} {A : Hp} : PartD [] s A 0 s A
  | skip {q n : Int} {ys : List Int} {s t : Co} {A B : Hp} {o : Ob} : A.ob q = some o → o.noted = false → PartD ys s A n t B → PartD (q :: ys) s A n t B
  | one {q n : Int} {ys : List Int} {s t u : Co} {A B C : Hp} {o : Ob} : A.ob q = some o → o.noted = true →
      FoD (s.wrote (s.ws.set q.toNat (wordI (o.n : Nat) o.rs.length o.age o.par o.grey false true))) (A.put q { o with noted := false }) q t B → PartD ys t B n u C → PartD (q :: ys) s A ((o.sz : Nat) + n) u C

theorem PartD.snoc_skip {ys : List Int} {n : Int} (m : PartD ys s A n t B) : ∀ {q : Int} {o : Ob}, B.ob q = some o → o.noted = false → PartD (ys ++ [q]) s A n t B := by
  induction m with
  | nil => intro q o ho hn; exact .skip ho hn .nil
  | skip ho hn _ ih => intro q o ho' hn'; exact .skip ho hn (ih ho' hn')
  | one ho hn f _ ih => intro q o ho' hn'; exact .one ho hn f (ih ho' hn')
theorem PartD.snoc_one {ys : List Int} {n : Int} (m : PartD ys s A n t B) : ∀ {q : Int} {o : Ob} {u : Co} {C : Hp}, B.ob q = some o → o.noted = true →
    FoD (t.wrote (t.ws.set q.toNat (wordI (o.n : Nat) o.rs.length o.age o.par o.grey false true))) (B.put q { o with noted := false }) q u C → PartD (ys ++ [q]) s A (n + (o.sz : Nat)) u C := by
  induction m with
  | nil => intro q o u C ho hn f; rw [Int.zero_add]; have k := PartD.one ho hn f .nil; rwa [Int.add_zero] at k
  | skip ho hn _ ih => intro q o u C ho' hn' f'; exact .skip ho hn (ih ho' hn' f')
  | one ho hn f _ ih => intro q o u C ho' hn' f'; rw [Int.add_assoc]; exact .one ho hn f (ih ho' hn' f')

theorem PartD.re {ys : List Int} {n : Int} (m : PartD ys s A n t B) (P : Pts) : PartD ys (s.re P) A n (t.re P) B := by
  induction m with
  | nil => exact .nil
  | skip ho hn _ ih => exact .skip ho hn ih
  | one ho hn f _ ih => exact .one (s := Co.re _ P) ho hn (f.re P) ih
theorem PartD.det {ys : List Int} {n : Int} (m : PartD ys s A n t B) : ∀ {n' : Int} {t' : Co} {B' : Hp}, PartD ys s A n' t' B' → n' = n ∧ t' = t ∧ B' = B := by
  induction m with
  | nil => intro n' t' B' k; cases k; exact ⟨rfl, rfl, rfl⟩
  | skip ho hn _ ih =>
    intro n' t' B' k
    cases k with
    | skip _ _ k => exact ih k
    | one ho' hn' _ _ => rw [ho] at ho'; cases ho'; rw [hn] at hn'; cases hn'
  | one ho hn f _ ih =>
    intro n' t' B' k
    cases k with
    | skip ho' hn' _ => rw [ho] at ho'; cases ho'; rw [hn] at hn'; cases hn'
    | one ho' _ f' k =>
      rw [ho] at ho'; cases ho'
      obtain ⟨rfl, rfl⟩ := f.one f'
      obtain ⟨rfl, rfl, rfl⟩ := ih k
      exact ⟨rfl, rfl, rfl⟩
end
end Gc
end Go.Proofs.YthmhehehomieiaaGreat

/- Of no program: a region that draws its order, whose operations each make something (what they yield may hang on the order, but is of a kind known ahead) but for a forced tail: one walk in the order of the text serves. -/
namespace Go.Proofs.YthmhehehomieiaaGreat

/-- What was made so far, by the operations' numbers. -/
abbrev Made := Nat → Option Value
def Made.upd (m : Made) (i : Nat) (v : Value) : Made := fun k => if k = i then some v else m k

theorem Made.upd_comm (m : Made) {i j : Nat} (h : i ≠ j) (v u : Value) : (m.upd i v).upd j u = (m.upd j u).upd i v := by
  funext k
  unfold Made.upd
  by_cases h1 : k = j
  · by_cases h2 : k = i
    · omega
    · rw [if_pos h1, if_neg h2, if_pos h1]
  · rw [if_neg h1]
    by_cases h2 : k = i
    · rw [if_pos h2, if_pos h2]
    · rw [if_neg h2, if_neg h2, if_neg h1]

/-- What is asked once an operation has been carried out: it yields a value of V, and T of the world behind it. -/
def madeUpon (P : Program) (V : Value → Prop) (T : Value → World → Prop) : Result Next → Prop
  | .ok (.value u) w' => V u ∧ T u w'
  | .ok .skip w' => V undef ∧ T undef w'
  | .ok (.enter f args) w' => Calls P f args w' (fun e w'' => ∃ u, e = .returned u ∧ V u ∧ T u w'')
  | _ => False

section
variable (P : Program) (G : Made → World → Prop)
/-- Whatever was made so far, the operation makes something of its kind. -/
def makes (V : Value → Prop) (i : Nat) (o : Oper) (a : Act) : Prop :=
  ∀ m w, G m w → madeUpon P V (fun u w' => G (m.upd i u) w') ((execOp a.eval o).run P w)

/-- The walk in the order of the text. -/
def wpMade (V : Nat → Value → Prop) (T : Act → Made → Prop) : List Oper → Nat → Act → Made → Prop
  | [], _, a, m => T a m
  | o :: rest, k, a, m => makes P G (V k) k o a ∧ ∀ v, V k v → wpMade V T rest (k + 1) (a.put o.dst v) (m.upd k v)

def mOp (ops : Array Oper) (V : Nat → Value → Prop) (i : Nat) (K : Act → Made → Prop) (a : Act) (m : Made) : Prop :=
  match ops[i]? with
  | none => False
  | some o => o.guard = none ∧ makes P G (V i) i o a ∧ ∀ v, V i v → K (a.put o.dst v) (m.upd i v)
end

section
variable {P : Program} {G : Made → World → Prop} {md : Region.Mode} {ops : Array Oper} {V : Nat → Value → Prop}

theorem mOp_mono {i : Nat} {K K' : Act → Made → Prop} {a : Act} {m : Made} (h : ∀ a m, K a m → K' a m) (hh : mOp P G ops V i K a m) : mOp P G ops V i K' a m := by
  unfold mOp at *
  split
  · simp_all
  · rename_i o ho
    rw [ho] at hh
    exact ⟨hh.1, hh.2.1, fun v hv => h _ _ (hh.2.2 v hv)⟩

theorem wpOp_of_made {i : Nat} {K : Act → Made → Prop} {K' : Act → World → Prop} {Q : Exit → Act → World → Prop} {a : Act} {m : Made} {w : World} (hG : G m w) (h : ∀ a m w, G m w → K a m → K' a w) (hh : mOp P G ops V i K a m) : wpOp P ops Q i K' a w := by
  unfold mOp at hh
  unfold wpOp
  split
  · rename_i ho; rw [ho] at hh; exact hh.elim
  · rename_i o ho
    rw [ho] at hh
    obtain ⟨hg, hm, hk⟩ := hh
    rw [if_pos (by simp [Region.wanted, hg])]
    refine .inl ?_
    have h3 := hm m w hG
    unfold Oper.wp
    generalize (execOp a.eval o).run P w = r at *
    cases r with
    | ok n w' =>
      cases n <;> simp only [madeUpon] at h3 <;> simp only [Oper.upon]
      case value u => exact h _ _ _ h3.2 (hk u h3.1)
      case skip => exact h _ _ _ h3.2 (hk _ h3.1)
      case enter f args =>
        refine h3.mono fun e w'' he => ?_
        obtain ⟨u, rfl, hv, hg'⟩ := he
        exact h _ _ _ hg' (hk u hv)
    | halt x w' => simp only [madeUpon] at h3

/-- f operations more come up, each one of the first n, and makes something of its kind, whichever is picked; then L. -/
def HeadM (P : Program) (G : Made → World → Prop) (md : Region.Mode) (ops : Array Oper) (V : Nat → Value → Prop) (n : Nat) (L : Array Bool → Act → Made → Prop) : Nat → Array Bool → Act → Made → Prop
  | 0, done, a, m => L done a m
  | f + 1, done, a, m => Region.ready md ops done ≠ [] ∧ ∀ i ∈ Region.ready md ops done, i < n ∧ mOp P G ops V i (HeadM P G md ops V n L f (done.setIfInBounds i true)) a m

theorem HeadM.any {n g : Nat} {L : Array Bool → Act → Made → Prop} {Q : Exit → Act → World → Prop} (hL : ∀ done a m w, G m w → L done a m → wpAny P md ops Q g done a w) (f : Nat) :
    ∀ done a m w, G m w → HeadM P G md ops V n L f done a m → wpAny P md ops Q (f + g) done a w := by
  induction f with
  | zero => intro done a m w hw h; rw [Nat.zero_add]; exact hL done a m w hw h
  | succ f ih =>
    intro done a m w hw h
    rw [Nat.succ_add]
    exact ⟨fun e => absurd e h.1, fun i hi => wpOp_of_made hw (fun a' m' w' hw' h' => ih _ a' m' w' hw' h') (h.2 i hi).2⟩

theorem makes_same {V : Value → Prop} {i : Nat} {o : Oper} {a a' : Act} (h : execOp a'.eval o = execOp a.eval o) (k : makes P G V i o a) : makes P G V i o a' := by
  unfold makes at *
  rw [h]
  exact k

/-- An operation of the head that may come up now may be taken first. -/
theorem HeadM.first {n i : Nat} {o : Oper} {L : Array Bool → Act → Made → Prop} (hV : ∀ k, ∃ v, V k v) (ho : ops[i]? = some o) (hg : o.guard = none) (sel : Region.noSelect ops = true)
    (sink : Region.sinkB md ops n = true) (chain : Region.chainB md ops n = true) (hn : n < ops.size) (hin : i < n) (last : ∀ done a m, L done a m → ∀ j ∈ Region.ready md ops done, n ≤ j) (f : Nat) :
    ∀ done a m, HeadInv md ops n done →
      (∀ j oj, ops[j]? = some oj → j ≠ i → done.getD j true = false → (∀ e ∈ oj.after, Region.binds md e = true → e.on ≠ i) → o.apart ops oj = true) →
      i ∈ Region.ready md ops done → makes P G (V i) i o a → (∀ v, V i v → HeadM P G md ops V n L f (done.setIfInBounds i true) (a.put o.dst v) (m.upd i v)) → HeadM P G md ops V n L (f + 1) done a m := by
  induction f with
  | zero =>
    intro done a m inv _ hr hy H
    refine ⟨List.ne_nil_of_mem hr, fun j hj => ?_⟩
    have hjn : j < n := Nat.lt_of_not_le fun h => tail_waits sink chain hn inv _ i rfl hin (mem_ready.1 hr).1 j h hj
    by_cases e : j = i
    · subst e
      refine ⟨hjn, ?_⟩
      unfold mOp
      rw [ho]
      exact ⟨hg, hy, H⟩
    · obtain ⟨v, hv⟩ := hV i
      have := last _ _ _ (H v hv) j (ready_mono hj e)
      omega
  | succ f ih =>
    intro done a m inv fr hr hy H
    refine ⟨List.ne_nil_of_mem hr, fun j hj => ?_⟩
    have hjn : j < n := Nat.lt_of_not_le fun h => tail_waits sink chain hn inv _ i rfl hin (mem_ready.1 hr).1 j h hj
    by_cases e : j = i
    · subst e
      refine ⟨hjn, ?_⟩
      unfold mOp
      rw [ho]
      exact ⟨hg, hy, H⟩
    · obtain ⟨hju, oj, hoj, hall⟩ := mem_ready.1 hj
      have off : ∀ d ∈ oj.after, Region.binds md d = true → d.on ≠ i := fun d hd hb hon => by
        have h1 := hall d hd hb
        rw [hon, getD_both (mem_ready.1 hr).1] at h1
        cases h1
      have S := Region.noSelect_spec sel
      have ap := fr j oj hoj e hju off
      obtain ⟨a1, a2, a3⟩ := Oper.apart_spec ap
      have H2 : ∀ v, V i v → mOp P G ops V j (HeadM P G md ops V n L f ((done.setIfInBounds i true).setIfInBounds j true)) (a.put o.dst v) (m.upd i v) := fun v hv => ((H v hv).2 j (ready_mono hj e)).2
      obtain ⟨v0, hv0⟩ := hV i
      have H0 := H2 v0 hv0
      refine ⟨hjn, ?_⟩
      unfold mOp at H0 H2 ⊢
      rw [hoj] at H0 H2 ⊢
      simp only at H0 H2 ⊢
      refine ⟨H0.1, makes_same (execOp_put oj (fun cs b => S j oj cs b hoj) a o.dst v0 a1).symm H0.2.1, fun u hu => ?_⟩
      refine ih _ _ _ (inv.set hj hjn) (fun k ok hk hki hu' hno => fr k ok hk hki ?_ hno) (ready_mono hr (Ne.symm e)) (makes_same (execOp_put o (fun cs b => S i o cs b ho) a oj.dst u a3) hy) fun v hv => ?_
      · by_cases ek : j = k
        · subst ek; exact hju
        · rwa [getD_set_ne true ek] at hu'
      · have := (H2 v hv).2.2 u hu
        rw [Act.put_comm a v u a2, Made.upd_comm m (Ne.symm e) v u] at this
        rw [Array.setIfInBounds_comm _ _ e]
        exact this

theorem HeadM.lex {n g : Nat} {T : Act → Made → Prop} (hV : ∀ k, ∃ v, V k v) (sel : Region.noSelect ops = true) (sink : Region.sinkB md ops n = true) (chain : Region.chainB md ops n = true) (hn : n < ops.size) (l : List Oper) :
    ∀ k done a m, (∀ j, j < l.length → l[j]? = ops[k + j]?) → (∀ o ∈ l, o.guard = none) → k + l.length = n → HeadInv md ops n done → Region.lexHead md ops g l.length k done = true → wpMade P G V T l k a m →
      HeadM P G md ops V n (fun d a' m' => Region.seqB md ops g n d = true ∧ T a' m') l.length done a m := by
  induction l with
  | nil =>
    intro k done a m _ _ hk _ hB h
    obtain rfl : k = n := by simpa using hk
    exact ⟨by simpa [Region.lexHead] using hB, h⟩
  | cons o l ih =>
    intro k done a m hl hg hk inv hB h
    have h0 : ops[k]? = some o := by simpa using (hl 0 (by simp)).symm
    have hkl : k + (l.length + 1) = n := hk
    have hkn : k < n := by omega
    simp only [List.length_cons, Region.lexHead, Bool.and_eq_true] at hB
    have hr : k ∈ Region.ready md ops done := by simpa using hB.1.1
    refine HeadM.first hV h0 (hg o (List.mem_cons_self ..)) sel sink chain hn hkn (fun d a' m' hL => seqB_ready hL.1) l.length done a m inv (Region.free_spec h0 hB.1.2) hr h.1 fun v hv =>
      ih (k + 1) _ _ _ (fun j hj => ?_) (fun x hx => hg x (List.mem_cons_of_mem _ hx)) (by omega) (inv.set hr hkn) hB.2 (h.2 v hv)
    have := hl (j + 1) (by simp; omega)
    simpa [Nat.add_assoc, Nat.add_comm 1 j] using this

theorem wpMade_step {T : Act → Made → Prop} {o : Oper} {rest : List Oper} {k : Nat} {a : Act} {m : Made} (h : makes P G (V k) k o a)
    (h2 : ∀ K : Act → Made → Prop, (∀ a m, wpMade P G V T rest (k + 1) a m → K a m) → ∀ v, V k v → K (a.put o.dst v) (m.upd k v)) : wpMade P G V T (o :: rest) k a m :=
  ⟨h, fun v hv => h2 _ (fun _ _ h => h) v hv⟩
theorem wpMade_nil {T : Act → Made → Prop} {k : Nat} {a : Act} {m : Made} (h : T a m) : wpMade P G V T [] k a m := h

/-- The region's head is walked in the order of the text, whatever is made; its tail as it stands. -/
theorem region_made_tail {id : Nat} {Q : Exit → Act → World → Prop} {a : Act} {w : World} {l : List Oper} (G : Made → World → Prop) (V : Nat → Value → Prop) (n : Nat) (hm : P.follows .mixedOrders = true) (hB : Region.lexTailB .any l.toArray n = true)
    (hgd : ((l.take n).all fun o => o.guard.isNone) = true) (hV : ∀ k, ∃ v, V k v) (hG : G (fun _ => none) w.drew)
    (h : wpMade P G V (fun a' m => ∀ w', G m w' → wpList P l.toArray Q (l.drop n) a' w') (l.take n) 0 a (fun _ => none)) : (Code.region id l.toArray true).wp P Q a w := by
  simp only [Region.lexTailB, Bool.and_eq_true, decide_eq_true_eq] at hB
  obtain ⟨⟨⟨⟨sel, hn⟩, sink⟩, chain⟩, lex⟩ := hB
  have hn' : n < l.length := by simpa using hn
  have e1 : (l.take n).length = n := by simp; omega
  have e2 : (l.drop n).length = l.toArray.size - n := by simp
  have inv : HeadInv .any l.toArray n (Array.replicate l.toArray.size false) :=
    ⟨by simp, fun j oj _ hj => (by rw [getD_replicate_false] at hj; cases hj), fun t _ ht => getD_in (by simpa using ht) (getD_replicate_false _ _)⟩
  have H := HeadM.lex (md := .any) (g := l.toArray.size - n) hV sel sink chain hn (l.take n) 0 _ a _ (fun j hj => by
    have : j < n := by omega
    simp [this]) (fun o ho => by simpa using List.all_eq_true.1 hgd o ho) (by simpa using e1) inv (by rw [e1]; exact lex) h
  refine wp_region_any hm ?_
  have R := HeadM.any (Q := Q) (g := l.toArray.size - n) (fun d a' m' w' hw' hL => by
    have := wpAny_of_seq (md := .any) (Q' := Q) (l.drop n) n d a' w' (fun j => by simp [List.getElem?_drop]) (by rw [e2]; exact hL.1) (hL.2 w' hw')
    rwa [e2] at this) _ _ _ _ { w with drawn := w.drawn + 1 } hG H
  rw [e1, show n + (l.toArray.size - n) = l.toArray.size by omega] at R
  exact R
end
end Go.Proofs.YthmhehehomieiaaGreat

/- Of no program: region_made_tail (MdQ) for operations that hang on what others made: each is shown to make something of its kind wherever what it waits for was made as the walk knows it, and it itself was not made yet. -/
namespace Go.Proofs.YthmhehehomieiaaGreat

theorem Made.upd_ne {m : Made} {i d : Nat} (v : Value) (h : d ≠ i) : (m.upd i v) d = m d := by
  unfold Made.upd
  rw [if_neg h]

section
variable (P : Program) (G : Made → World → Prop) (md : Region.Mode)
/-- Wherever what the operation waits for was made as m says, and it itself was made as m says (not yet), it makes something of its kind. -/
def makesR (V : Value → Prop) (i : Nat) (o : Oper) (a : Act) (m : Made) : Prop :=
  ∀ m' w, G m' w → (∀ d, (d = i ∨ ∃ e ∈ o.after, Region.binds md e = true ∧ e.on = d) → m' d = m d) → madeUpon P V (fun u w' => G (m'.upd i u) w') ((execOp a.eval o).run P w)

/-- The walk in the order of the text. -/
def wpMadeR (V : Nat → Value → Prop) (T : Act → Made → Prop) : List Oper → Nat → Act → Made → Prop
  | [], _, a, m => T a m
  | o :: rest, k, a, m => makesR P G md (V k) k o a m ∧ ∀ v, V k v → wpMadeR V T rest (k + 1) (a.put o.dst v) (m.upd k v)

def mOpR (ops : Array Oper) (V : Nat → Value → Prop) (i : Nat) (K : Act → Made → Prop) (a : Act) (m : Made) : Prop :=
  match ops[i]? with
  | none => False
  | some o => o.guard = none ∧ makesR P G md (V i) i o a m ∧ ∀ v, V i v → K (a.put o.dst v) (m.upd i v)
end

section
variable {P : Program} {G : Made → World → Prop} {md : Region.Mode} {ops : Array Oper} {V : Nat → Value → Prop}

theorem mOpR_mono {i : Nat} {K K' : Act → Made → Prop} {a : Act} {m : Made} (h : ∀ a m, K a m → K' a m) (hh : mOpR P G md ops V i K a m) : mOpR P G md ops V i K' a m := by
  unfold mOpR at *
  split
  · simp_all
  · rename_i o ho
    rw [ho] at hh
    exact ⟨hh.1, hh.2.1, fun v hv => h _ _ (hh.2.2 v hv)⟩

theorem wpOp_of_madeR {i : Nat} {K : Act → Made → Prop} {K' : Act → World → Prop} {Q : Exit → Act → World → Prop} {a : Act} {m : Made} {w : World} (hG : G m w) (h : ∀ a m w, G m w → K a m → K' a w) (hh : mOpR P G md ops V i K a m) : wpOp P ops Q i K' a w := by
  unfold mOpR at hh
  unfold wpOp
  split
  · rename_i ho; rw [ho] at hh; exact hh.elim
  · rename_i o ho
    rw [ho] at hh
    obtain ⟨hg, hm, hk⟩ := hh
    rw [if_pos (by simp [Region.wanted, hg])]
    refine .inl ?_
    have h3 := hm m w hG fun _ _ => rfl
    unfold Oper.wp
    generalize (execOp a.eval o).run P w = r at *
    cases r with
    | ok n w' =>
      cases n <;> simp only [madeUpon] at h3 <;> simp only [Oper.upon]
      case value u => exact h _ _ _ h3.2 (hk u h3.1)
      case skip => exact h _ _ _ h3.2 (hk _ h3.1)
      case enter f args =>
        refine h3.mono fun e w'' he => ?_
        obtain ⟨u, rfl, hv, hg'⟩ := he
        exact h _ _ _ hg' (hk u hv)
    | halt x w' => simp only [madeUpon] at h3

/-- f operations more come up, each one of the first n, and makesR something of its kind, whichever is picked; then L. -/
def HeadMR (P : Program) (G : Made → World → Prop) (md : Region.Mode) (ops : Array Oper) (V : Nat → Value → Prop) (n : Nat) (L : Array Bool → Act → Made → Prop) : Nat → Array Bool → Act → Made → Prop
  | 0, done, a, m => L done a m
  | f + 1, done, a, m => Region.ready md ops done ≠ [] ∧ ∀ i ∈ Region.ready md ops done, i < n ∧ mOpR P G md ops V i (HeadMR P G md ops V n L f (done.setIfInBounds i true)) a m

theorem HeadMR.any {n g : Nat} {L : Array Bool → Act → Made → Prop} {Q : Exit → Act → World → Prop} (hL : ∀ done a m w, G m w → L done a m → wpAny P md ops Q g done a w) (f : Nat) :
    ∀ done a m w, G m w → HeadMR P G md ops V n L f done a m → wpAny P md ops Q (f + g) done a w := by
  induction f with
  | zero => intro done a m w hw h; rw [Nat.zero_add]; exact hL done a m w hw h
  | succ f ih =>
    intro done a m w hw h
    rw [Nat.succ_add]
    exact ⟨fun e => absurd e h.1, fun i hi => wpOp_of_madeR hw (fun a' m' w' hw' h' => ih _ a' m' w' hw' h') (h.2 i hi).2⟩

theorem makesR_same {V : Value → Prop} {i : Nat} {o : Oper} {a a' : Act} {m m' : Made} (h : execOp a'.eval o = execOp a.eval o) (hm : ∀ d, (d = i ∨ ∃ e ∈ o.after, Region.binds md e = true ∧ e.on = d) → m' d = m d) (k : makesR P G md V i o a m) : makesR P G md V i o a' m' := by
  unfold makesR at *
  rw [h]
  exact fun m2 w hw ha => k m2 w hw fun d hd => (ha d hd).trans (hm d hd)

/-- An operation of the head that may come up now may be taken first. -/
theorem HeadMR.first {n i : Nat} {o : Oper} {L : Array Bool → Act → Made → Prop} (hV : ∀ k, ∃ v, V k v) (ho : ops[i]? = some o) (hg : o.guard = none) (sel : Region.noSelect ops = true)
    (sink : Region.sinkB md ops n = true) (chain : Region.chainB md ops n = true) (hn : n < ops.size) (hin : i < n) (last : ∀ done a m, L done a m → ∀ j ∈ Region.ready md ops done, n ≤ j) (f : Nat) :
    ∀ done a m, HeadInv md ops n done →
      (∀ j oj, ops[j]? = some oj → j ≠ i → done.getD j true = false → (∀ e ∈ oj.after, Region.binds md e = true → e.on ≠ i) → o.apart ops oj = true) →
      i ∈ Region.ready md ops done → makesR P G md (V i) i o a m → (∀ v, V i v → HeadMR P G md ops V n L f (done.setIfInBounds i true) (a.put o.dst v) (m.upd i v)) → HeadMR P G md ops V n L (f + 1) done a m := by
  induction f with
  | zero =>
    intro done a m inv _ hr hy H
    refine ⟨List.ne_nil_of_mem hr, fun j hj => ?_⟩
    have hjn : j < n := Nat.lt_of_not_le fun h => tail_waits sink chain hn inv _ i rfl hin (mem_ready.1 hr).1 j h hj
    by_cases e : j = i
    · subst e
      refine ⟨hjn, ?_⟩
      unfold mOpR
      rw [ho]
      exact ⟨hg, hy, H⟩
    · obtain ⟨v, hv⟩ := hV i
      have := last _ _ _ (H v hv) j (ready_mono hj e)
      omega
  | succ f ih =>
    intro done a m inv fr hr hy H
    refine ⟨List.ne_nil_of_mem hr, fun j hj => ?_⟩
    have hjn : j < n := Nat.lt_of_not_le fun h => tail_waits sink chain hn inv _ i rfl hin (mem_ready.1 hr).1 j h hj
    by_cases e : j = i
    · subst e
      refine ⟨hjn, ?_⟩
      unfold mOpR
      rw [ho]
      exact ⟨hg, hy, H⟩
    · obtain ⟨hju, oj, hoj, hall⟩ := mem_ready.1 hj
      have off : ∀ d ∈ oj.after, Region.binds md d = true → d.on ≠ i := fun d hd hb hon => by
        have h1 := hall d hd hb
        rw [hon, getD_both (mem_ready.1 hr).1] at h1
        cases h1
      have agj : ∀ d, (d = j ∨ ∃ x ∈ oj.after, Region.binds md x = true ∧ x.on = d) → d ≠ i := fun d hd => by
        rcases hd with rfl | ⟨x, hx, hb, rfl⟩
        · exact e
        · exact off x hx hb
      obtain ⟨hiu, oi, hoi, halli⟩ := mem_ready.1 hr
      have eoi : oi = o := by rw [ho] at hoi; exact (Option.some.inj hoi).symm
      have agi : ∀ d, (d = i ∨ ∃ x ∈ o.after, Region.binds md x = true ∧ x.on = d) → d ≠ j := fun d hd => by
        rcases hd with rfl | ⟨x, hx, hb, rfl⟩
        · exact Ne.symm e
        · intro hon
          have h1 := halli x (eoi ▸ hx) hb
          rw [hon, getD_both hju] at h1
          cases h1
      have S := Region.noSelect_spec sel
      have ap := fr j oj hoj e hju off
      obtain ⟨a1, a2, a3⟩ := Oper.apart_spec ap
      have H2 : ∀ v, V i v → mOpR P G md ops V j (HeadMR P G md ops V n L f ((done.setIfInBounds i true).setIfInBounds j true)) (a.put o.dst v) (m.upd i v) := fun v hv => ((H v hv).2 j (ready_mono hj e)).2
      obtain ⟨v0, hv0⟩ := hV i
      have H0 := H2 v0 hv0
      refine ⟨hjn, ?_⟩
      unfold mOpR at H0 H2 ⊢
      rw [hoj] at H0 H2 ⊢
      simp only at H0 H2 ⊢
      refine ⟨H0.1, makesR_same (execOp_put oj (fun cs b => S j oj cs b hoj) a o.dst v0 a1).symm (fun d hd => (Made.upd_ne v0 (agj d hd)).symm) H0.2.1, fun u hu => ?_⟩
      refine ih _ _ _ (inv.set hj hjn) (fun k ok hk hki hu' hno => fr k ok hk hki ?_ hno) (ready_mono hr (Ne.symm e)) (makesR_same (execOp_put o (fun cs b => S i o cs b ho) a oj.dst u a3) (fun d hd => Made.upd_ne u (agi d hd)) hy) fun v hv => ?_
      · by_cases ek : j = k
        · subst ek; exact hju
        · rwa [getD_set_ne true ek] at hu'
      · have := (H2 v hv).2.2 u hu
        rw [Act.put_comm a v u a2, Made.upd_comm m (Ne.symm e) v u] at this
        rw [Array.setIfInBounds_comm _ _ e]
        exact this

theorem HeadMR.lex {n g : Nat} {T : Act → Made → Prop} (hV : ∀ k, ∃ v, V k v) (sel : Region.noSelect ops = true) (sink : Region.sinkB md ops n = true) (chain : Region.chainB md ops n = true) (hn : n < ops.size) (l : List Oper) :
    ∀ k done a m, (∀ j, j < l.length → l[j]? = ops[k + j]?) → (∀ o ∈ l, o.guard = none) → k + l.length = n → HeadInv md ops n done → Region.lexHead md ops g l.length k done = true → wpMadeR P G md V T l k a m →
      HeadMR P G md ops V n (fun d a' m' => Region.seqB md ops g n d = true ∧ T a' m') l.length done a m := by
  induction l with
  | nil =>
    intro k done a m _ _ hk _ hB h
    obtain rfl : k = n := by simpa using hk
    exact ⟨by simpa [Region.lexHead] using hB, h⟩
  | cons o l ih =>
    intro k done a m hl hg hk inv hB h
    have h0 : ops[k]? = some o := by simpa using (hl 0 (by simp)).symm
    have hkl : k + (l.length + 1) = n := hk
    have hkn : k < n := by omega
    simp only [List.length_cons, Region.lexHead, Bool.and_eq_true] at hB
    have hr : k ∈ Region.ready md ops done := by simpa using hB.1.1
    refine HeadMR.first hV h0 (hg o (List.mem_cons_self ..)) sel sink chain hn hkn (fun d a' m' hL => seqB_ready hL.1) l.length done a m inv (Region.free_spec h0 hB.1.2) hr h.1 fun v hv =>
      ih (k + 1) _ _ _ (fun j hj => ?_) (fun x hx => hg x (List.mem_cons_of_mem _ hx)) (by omega) (inv.set hr hkn) hB.2 (h.2 v hv)
    have := hl (j + 1) (by simp; omega)
    simpa [Nat.add_assoc, Nat.add_comm 1 j] using this

theorem wpMadeR_step {T : Act → Made → Prop} {o : Oper} {rest : List Oper} {k : Nat} {a : Act} {m : Made} (h : makesR P G md (V k) k o a m)
    (h2 : ∀ K : Act → Made → Prop, (∀ a m, wpMadeR P G md V T rest (k + 1) a m → K a m) → ∀ v, V k v → K (a.put o.dst v) (m.upd k v)) : wpMadeR P G md V T (o :: rest) k a m :=
  ⟨h, fun v hv => h2 _ (fun _ _ h => h) v hv⟩
theorem wpMadeR_nil {T : Act → Made → Prop} {k : Nat} {a : Act} {m : Made} (h : T a m) : wpMadeR P G md V T [] k a m := h

/-- The region's head is walked in the order of the text, whatever is made; its tail as it stands. -/
theorem region_made_tailR {id : Nat} {Q : Exit → Act → World → Prop} {a : Act} {w : World} {l : List Oper} (G : Made → World → Prop) (V : Nat → Value → Prop) (n : Nat) (hm : P.follows .mixedOrders = true) (hB : Region.lexTailB .any l.toArray n = true)
    (hgd : ((l.take n).all fun o => o.guard.isNone) = true) (hV : ∀ k, ∃ v, V k v) (hG : G (fun _ => none) w.drew)
    (h : wpMadeR P G .any V (fun a' m => ∀ w', G m w' → wpList P l.toArray Q (l.drop n) a' w') (l.take n) 0 a (fun _ => none)) : (Code.region id l.toArray true).wp P Q a w := by
  simp only [Region.lexTailB, Bool.and_eq_true, decide_eq_true_eq] at hB
  obtain ⟨⟨⟨⟨sel, hn⟩, sink⟩, chain⟩, lex⟩ := hB
  have hn' : n < l.length := by simpa using hn
  have e1 : (l.take n).length = n := by simp; omega
  have e2 : (l.drop n).length = l.toArray.size - n := by simp
  have inv : HeadInv .any l.toArray n (Array.replicate l.toArray.size false) :=
    ⟨by simp, fun j oj _ hj => (by rw [getD_replicate_false] at hj; cases hj), fun t _ ht => getD_in (by simpa using ht) (getD_replicate_false _ _)⟩
  have H := HeadMR.lex (md := .any) (g := l.toArray.size - n) hV sel sink chain hn (l.take n) 0 _ a _ (fun j hj => by
    have : j < n := by omega
    simp [this]) (fun o ho => by simpa using List.all_eq_true.1 hgd o ho) (by simpa using e1) inv (by rw [e1]; exact lex) h
  refine wp_region_any hm ?_
  have R := HeadMR.any (Q := Q) (g := l.toArray.size - n) (fun d a' m' w' hw' hL => by
    have := wpAny_of_seq (md := .any) (Q' := Q) (l.drop n) n d a' w' (fun j => by simp [List.getElem?_drop]) (by rw [e2]; exact hL.1) (hL.2 w' hw')
    rwa [e2] at this) _ _ _ _ { w with drawn := w.drawn + 1 } hG H
  rw [e1, show n + (l.toArray.size - n) = l.toArray.size by omega] at R
  exact R
end
end Go.Proofs.YthmhehehomieiaaGreat

/- An object is followed: its references are gone through, and it is noted. -/
namespace Go.Proofs.YthmhehehomieiaaGreat
namespace Gc
open Go.RowKit

/-- All but its references is as it was. -/
structure Like (o o' : Ob) : Prop where
  age : o'.age = o.age
  par : o'.par = o.par
  grey : o'.grey = o.grey
  noted : o'.noted = o.noted
  way : o'.way = o.way
  ss : o'.ss = o.ss
  len : o'.rs.length = o.rs.length

theorem Like.refl (o : Ob) : Like o o := ⟨rfl, rfl, rfl, rfl, rfl, rfl, rfl⟩
theorem Like.set {o o' : Ob} (h : Like o o') (n : Nat) (r : Int) : Like o { o' with rs := o'.rs.set n r } := ⟨h.age, h.par, h.grey, h.noted, h.way, h.ss, by simp [h.len]⟩

/-- So far n references have been gone through; is there a young one among them? -/
def FolI (w wr : World) (b : Nat) (S : Nat → Prop) (s : Co) (x p : Int) (A : Hp) (o : Ob) (hb : Nat) (n : Nat) (yg : Bool) : Prop :=
  ∃ s' B o', Cw w wr S (fun k => k = hb) b s' ∧ Sim s' B ∧ Inv x B ∧ SameT s A s' B ∧ Fol p A B ∧ B.ob p = some o' ∧ Like o o' ∧ (∀ (k : Nat) (r : Int), k < n → o'.rs[k]? = some r → r ∉ B.E ∧ (yg = false → r ∉ B.F)) ∧
    hdB wr hb (o.n : Nat) o.rs.length o.age o.par o.grey o.noted (decide (p ∈ A.O)) ∧ FolD s A p n s' B yg

section
variable {A : Hp} {x : Int} {s : Co} {w : World} {b : Nat} {S : Nat → Prop}

theorem c14_of (hC : Cr w b S s) : w.cell? ⟨b, 14, none⟩ = some (bpP s.pt.y) := by
  obtain ⟨P, own, h0, rfl, rfl⟩ := hC
  have : s.pt.y = P.y := by rw [h0.pts]; rfl
  rw [this]; exact h0.cell 14
theorem in_co (hC : Cr w b S s) (r : Int) : Calls Tryz.prog 130 #[bpP s.pt.y, .int .i64 r] w fun e w' => e = .returned (.bool (inH (hAt s.cf.nu 1 s.yn) s.yu r)) ∧ Below w.heap.size w w' := by
  obtain ⟨P, own, h0, rfl, rfl⟩ := hC
  have : s.pt.y = P.y := by rw [h0.pts]; rfl
  rw [this]
  exact bIn_any _ _ _ _ _ _ _ r (h0.prt 2).1

/-- One reference more. -/
theorem FolI.step {wr : World} {p : Int} {o : Ob} {hb n : Nat} {yg : Bool} (hx : x = 0 ∨ ∃ v, A.ob x = some v) (hpE : p ∉ A.E) (hO : p ∈ A.O → p = x) (hpO : p ∈ A.O ∨ p ∈ A.F) (h : FolI w wr b S s x p A o hb n yg) (hn : n < o.rs.length) :
    Calls Tryz.prog 172 #[ptr b, .int .i64 p, .int .i64 n] wr fun e w' => ∃ r s', e = .returned (.int .i64 r) ∧ s'.pt = s.pt ∧ (∃ S', Cr w' b S' s') ∧ FolI w w' b S s x p A o hb (n + 1) (inH (hAt s'.cf.nu 1 s'.yn) s'.yu r || yg) := by
  obtain ⟨s1, B, o1, k1, h1, i1, sm, fo, ho1, lk, refs, hd, fd⟩ := h
  obtain ⟨S1, c1, m1, n1⟩ := k1.is
  have hn1 : n < o1.rs.length := by rw [lk.len]; exact hn
  have hr0 : o1.rs[n]? = some o1.rs[n] := List.getElem?_eq_getElem hn1
  have hx1 : x = 0 ∨ ∃ v, B.ob x = some v := hx.imp id fun ⟨v, hv⟩ => by
    by_cases e : x ∈ A.E
    · obtain ⟨y, hy⟩ := fo.obE x v e hv
      exact ⟨_, hy⟩
    · by_cases e2 : x = p
      · exact ⟨o1, by rw [e2]; exact ho1⟩
      · exact ⟨v, fo.ob x v e e2 hv⟩
  have pE1 : p ∉ B.E := by rw [fo.E]; exact hpE
  have hO1 : p ∈ B.O → p = x := fun e => by
    rcases hpO with z | z
    · exact hO z
    · obtain ⟨l, hl⟩ := fo.F
      exact absurd e (i1.fo p (by rw [hl]; exact List.mem_append_left _ z))
  refine (refer_sim c1 h1 i1 hx1 ho1 pE1 hO1 hr0).mono ?_
  rintro e w' ⟨s2, B2, r, rfl, cr, h2, i2, sm2, fo2, ob2, rE, rk, rd⟩
  obtain ⟨k2, p2⟩ := k1.after m1 n1 cr
  obtain ⟨S2, c2, _⟩ := cr
  refine ⟨r, s2, rfl, (sm.trans sm2).pt, ⟨S2, c2⟩, s2, B2, _, k2, h2, i2, sm.trans sm2, fo.trans fo2, ob2, lk.set n r, fun k r1 hk hr => ?_, hd.kp p2 rfl, fd.succ rd⟩
  have hr : (o1.rs.set n r)[k]? = some r1 := hr
  by_cases e : k = n
  · subst e
    rw [List.getElem?_set_self hn1] at hr
    cases hr
    refine ⟨rE, fun e => ?_⟩
    rw [Bool.or_eq_false_iff] at e
    intro z
    rw [(h2.laid.in_iff i2 rk).2 z] at e
    exact Bool.noConfusion e.1
  · rw [List.getElem?_set_ne (Ne.symm e)] at hr
    obtain ⟨z1, z2⟩ := refs k r1 (by omega) hr
    refine ⟨by rw [fo2.E]; exact z1, fun e => ?_⟩
    rw [Bool.or_eq_false_iff] at e
    have z3 := z2 e.2
    intro z
    rcases i1.ref p o1 ho1 r1 (List.mem_of_getElem? hr) with y | y | y | y
    · have := i2.pos r1 (.inl z); omega
    · exact z3 y
    · exact z1 y
    · obtain ⟨l, hl, _⟩ := fo2.O
      exact i2.fo r1 z (by rw [hl]; exact List.mem_append_left _ y)

theorem FolI.keep {wr w1 : World} {p : Int} {o : Ob} {hb n : Nat} {yg : Bool} (h : FolI w wr b S s x p A o hb n yg) (f : Below wr.heap.size wr w1) : FolI w w1 b S s x p A o hb n yg := by
  obtain ⟨s1, B, o1, k1, h1, i1, sm, fo, ho1, lk, refs, hd, fd⟩ := h
  exact ⟨s1, B, o1, k1.keep f, h1, i1, sm, fo, ho1, lk, refs, hd.keep f, fd⟩

/-- How an object is followed. -/
def Followed (w : World) (b : Nat) (S : Nat → Prop) (s : Co) (p : Int) (A : Hp) (o : Ob) (e : Ending) (w' : World) : Prop :=
  ∃ s' B o', e = .returned (.int .i64 (o.sz : Nat)) ∧ CoR w b S s' w' ∧ Sim s' B ∧ Inv 0 B ∧ NearT s A s' B ∧ Fol p A B ∧ B.ob p = some o' ∧ o'.rs.length = o.rs.length ∧ o'.ss = o.ss ∧ (∀ r ∈ o'.rs, r ∉ B.E) ∧ (o'.noted = true → o.noted = true ∨ B.Y p) ∧ FoD s A p s' B

/-- What is known while a reference is gone through, by what was made so far. -/
def FoG (w wr : World) (b : Nat) (S : Nat → Prop) (s : Co) (x p : Int) (A : Hp) (o : Ob) (hb n : Nat) (yg : Bool) (m : Made) (w' : World) : Prop :=
  w'.cell? ⟨b, 14, none⟩ = some (bpP s.pt.y) ∧ match m 7 with
    | none => Below wr.heap.size wr w'
    | some v => ∃ r s', v = .int .i64 r ∧ s'.pt = s.pt ∧ (∃ S', Cr w' b S' s') ∧ FolI w w' b S s x p A o hb (n + 1) (inH (hAt s'.cf.nu 1 s'.yn) s'.yu r || yg)
theorem FoG.pure {w wr w' : World} {p : Int} {o : Ob} {hb n : Nat} {yg : Bool} {m : Made} (h : FoG w wr b S s x p A o hb n yg m w') (i : Nat) (v : Value) (hi : i ≠ 7) : FoG w wr b S s x p A o hb n yg (m.upd i v) w' := by
  unfold FoG at h ⊢
  rwa [show m.upd i v 7 = m 7 from if_neg (Ne.symm hi)]
theorem FoG.seven {w wr w' : World} {p : Int} {o : Ob} {hb n : Nat} {yg : Bool} {m : Made} {v : Value} (hc : w'.cell? ⟨b, 14, none⟩ = some (bpP s.pt.y))
    (h : ∃ r s', v = .int .i64 r ∧ s'.pt = s.pt ∧ (∃ S', Cr w' b S' s') ∧ FolI w w' b S s x p A o hb (n + 1) (inH (hAt s'.cf.nu 1 s'.yn) s'.yu r || yg)) : FoG w wr b S s x p A o hb n yg (m.upd 7 v) w' := by
  unfold FoG
  rw [show m.upd 7 v 7 = some v from if_pos rfl]
  exact ⟨hc, h⟩
theorem FoG.of7 {w wr w' : World} {p : Int} {o : Ob} {hb n : Nat} {yg : Bool} {m : Made} {v : Value} (h : FoG w wr b S s x p A o hb n yg (m.upd 7 v) w') :
    ∃ r s', v = .int .i64 r ∧ s'.pt = s.pt ∧ (∃ S', Cr w' b S' s') ∧ FolI w w' b S s x p A o hb (n + 1) (inH (hAt s'.cf.nu 1 s'.yn) s'.yu r || yg) := by
  unfold FoG at h
  rw [show m.upd 7 v 7 = some v from if_pos rfl] at h
  exact h.2

theorem Followed.keep {w wr w1 : World} {p : Int} {o : Ob} {e : Ending} (h : Followed w b S s p A o e wr) (f : Below wr.heap.size wr w1) : Followed w b S s p A o e w1 := by
  obtain ⟨s', B, o', he, cr, rest⟩ := h
  exact ⟨s', B, o', he, cr.post f, rest⟩

/-- All references have been gone through, and it need not be noted. -/
theorem FolI.end1 {w wr : World} {p : Int} {o : Ob} {hb : Nat} {yg : Bool} (h : FolI w wr b S s x p A o hb o.rs.length yg) (ho : A.ob p = some o) (hp : (p ∈ A.O ∧ x = p) ∨ (p ∈ A.F ∧ x = 0)) (hno : p ∈ A.O → yg = false) :
    Followed w b S s p A o (.returned (.int .i64 (o.sz : Nat))) wr := by
  obtain ⟨s1, B, o1, k1, h1, i1, sm, fo, ho1, lk, refs, hd, fd⟩ := h
  have far : ∀ r ∈ o1.rs, r ∉ B.E ∧ (yg = false → r ∉ B.F) := fun r hr => by
    obtain ⟨k, hk, e⟩ := List.getElem_of_mem hr
    exact refs k r (by rw [← lk.len]; exact hk) (by rw [List.getElem?_eq_getElem hk, e])
  refine ⟨s1, B, o1, rfl, k1.done, h1, ?_, sm.near, fo, ho1, lk.len, lk.ss, fun r hr => (far r hr).1, fun e => .inl (by rw [← lk.noted]; exact e), .plain ho fd hno⟩
  rcases hp with ⟨hO, rfl⟩ | ⟨_, rfl⟩
  · refine i1.strong fun v hv hv2 r hr => ?_
    rw [ho1] at hv2; cases hv2
    exact ⟨fun e => absurd e ((far r hr).2 (hno hO)), fun e => absurd e (far r hr).1⟩
  · exact i1

/-- It is noted. -/
theorem FolI.end2 {w wr : World} {p : Int} {o : Ob} {hb : Nat} (h : FolI w wr b S s p p A o hb o.rs.length true) (ho : A.ob p = some o) (hO : p ∈ A.O) :
    Calls Tryz.prog 30 #[ptr b, .int .i64 p] wr fun e w' => e = .returned (.tuple #[]) ∧ Followed w b S s p A o (.returned (.int .i64 (o.sz : Nat))) w' ∧ hdB w' hb (o.n : Nat) o.rs.length o.age o.par o.grey o.noted (decide (p ∈ A.O)) := by
  obtain ⟨s1, B, o1, k1, h1, i1, sm, fo, ho1, lk, refs, hd, fd⟩ := h
  have far : ∀ r ∈ o1.rs, r ∉ B.E := fun r hr => by
    obtain ⟨k, hk, e⟩ := List.getElem_of_mem hr
    exact (refs k r (by rw [← lk.len]; exact hk) (by rw [List.getElem?_eq_getElem hk, e])).1
  obtain ⟨S1, c1, m1, n1⟩ := k1.is
  have hO1 : p ∈ B.O := by
    obtain ⟨l, hl, _⟩ := fo.O
    rw [hl]; exact List.mem_append_left _ hO
  refine (note_sim c1 h1 i1 hO1 ho1 fun r hr e => absurd e (far r hr)).mono ?_
  rintro e w' ⟨s2, B2, rfl, cr, h2, i2, nr, fo2, hF, ob2, hY, nd⟩
  obtain ⟨k2, p2⟩ := k1.after m1 n1 cr
  refine ⟨rfl, ⟨s2, B2, _, rfl, k2.done, h2, i2, sm.near.trans nr, fo.trans fo2, ob2, lk.len, lk.ss, fun r hr => by rw [fo2.E]; exact far r hr, fun _ => hY.imp (fun e => by rw [← lk.noted]; exact e) id, .note ho fd hO nd⟩, hd.kp p2 rfl⟩

def FoV (b y n : Nat) (p : Int) : Nat → Value → Prop
  | 0 => fun v => v = ptr b
  | 1 => fun v => v = ptr b
  | 2 => fun v => v = .pointer (some ⟨b, 14, none⟩)
  | 3 => fun v => v = bpP y
  | 4 => fun v => v = ptr b
  | 5 => fun v => v = .int .i64 p
  | 6 => fun v => v = .int .i64 n
  | 7 => fun v => ∃ r, v = .int .i64 r
  | _ => fun _ => True
theorem foV_some (b y n : Nat) (p : Int) : ∀ i, ∃ v, FoV b y n p i v
  | 0 => ⟨_, rfl⟩
  | 1 => ⟨_, rfl⟩
  | 2 => ⟨_, rfl⟩
  | 3 => ⟨_, rfl⟩
  | 4 => ⟨_, rfl⟩
  | 5 => ⟨_, rfl⟩
  | 6 => ⟨_, rfl⟩
  | 7 => ⟨_, 0, rfl⟩
  | _ + 8 => ⟨undef, trivial⟩

set_option maxHeartbeats 8000000 in
set_option maxRecDepth 100000 in
theorem follow_sim (hC : Cr w b S s) (h : Sim s A) (i : Inv x A) {p : Int} {o : Ob} (ho : A.ob p = some o) (hp : (p ∈ A.O ∧ x = p) ∨ (p ∈ A.F ∧ x = 0)) :
    Calls Tryz.prog 158 #[ptr b, .int .i64 p] w (Followed w b S s p A o) := by
  have wl := hC.wl
  have at_ := h.laid.lies.at_ p o ho
  have gd := (goodB_iff ..).1 at_.good
  have p0 := i.ob_pos ho
  have bp := h.bound i wl (i.ob_ok ho)
  have hx : x = 0 ∨ ∃ v, A.ob x = some v := hp.elim (fun e => .inr ⟨o, by rw [e.2]; exact ho⟩) fun e => .inl e.2
  have hpE : p ∉ A.E := hp.elim (fun e z => i.eo p z e.1) fun e => i.fe p e.1
  have hO : p ∈ A.O → p = x := fun z => hp.elim (fun e => e.2.symm) fun e => absurd z (i.fo p e.1)
  have hpO : p ∈ A.O ∨ p ∈ A.F := hp.elim (fun e => .inl e.1) fun e => .inr e.1
  obtain ⟨a1, c13, H1⟩ := head_co hC p _ _ _ _ _ _ _ p0 at_.head at_.good
  have H1 := Lib.hid H1
  have N64 : (o.rs.length : Int) ≤ 64 := by omega
  have K64 : ((o.n : Nat) : Int) ≤ 64 := by omega
  have FS := Lib.hid (fun wr hb n yg => FolI.step (w := w) (b := b) (S := S) (s := s) (wr := wr) (o := o) (hb := hb) (n := n) (yg := yg) hx hpE hO hpO)
  have start : Hid (∀ w1, CoR w b S s w1 → FolI w (w1.alloc (.cells #[.int .i64 (o.n : Nat), .int .i64 o.rs.length, .int .i64 o.age, .int .i64 o.par, .bool o.grey, .bool o.noted, .bool (decide (p ∈ A.O))] 93)) b S s x p A o w1.heap.size 0 false) := Lib.hid (by
    intro w1 r
    obtain ⟨S1, c1, m1⟩ := r
    have K1 : Cw w w1 S noZ b s := ⟨⟨S1, c1, m1, fun _ e => e.elim⟩, fun _ e => e.elim⟩
    refine ⟨s, A, o, ?_, h, i, .refl s, .refl p A, ho, .refl o, fun k r hk => absurd hk (Nat.not_lt_zero k), Blk.new w1 _ _, .zero⟩
    exact K1.grow ((Below.refl _ w1).alloc (Nat.le_refl _) _) fun k e => .inr ⟨by omega, by subst e; simp⟩)
  have HP := Lib.hid hp
  have HO := Lib.hid ho
  have HFO := Lib.hid (fun e => i.fo p e)
  obtain ⟨N, hN⟩ : ∃ N, o.rs.length = N := ⟨_, rfl⟩
  obtain ⟨K, hK⟩ : ∃ K, o.n = K := ⟨_, rfl⟩
  rw [hN] at N64
  rw [hK] at K64
  rw [hN, hK] at H1 start
  have HN := Lib.hid hN
  have HK := Lib.hid hK
  clear hC h i ho hp wl at_ gd p0 bp hx hpE hO hpO hN hK
  go_enter Tryz.func158, Tryz.ntmps158
  go_wp2_with fail
  refine H1.out.mono ?_
  rintro e w1 ⟨rfl, r1⟩
  have F0 := Lib.hid (start.out w1 r1)
  clear r1 H1 start c13
  go_upto_region 2 with (fail)
  generalize w1.alloc (.cells #[.int .i64 (K : Nat), .int .i64 N, .int .i64 o.age, .int .i64 o.par, .bool o.grey, .bool o.noted, .bool (decide (p ∈ A.O))] 93) = w2 at *
  generalize w1.heap.size = hb at *
  obtain ⟨_, _, _, _, _, _, _, _, _, _, _, hd, _⟩ := F0.out
  rw [HN.out, HK.out] at hd
  obtain ⟨d0, d1, d2, d3, d4, d5, d6, df⟩ := hd.seven
  have lt := hd.lt
  clear hd d0 d2 d3 d4 d5 d6
  go_wp2_with fail
  clear d1 df lt
  go_loopw [7, 8, 22] (fun s7 s8 s22 wr => ∃ (n : Nat) (yg : Bool), n ≤ N ∧ s7 = .bool yg ∧ s22 = .int .i64 n ∧ Hid (FolI w wr b S s x p A o hb n yg)) (fun _ _ s22 _ => N - (intOf s22).toNat)
  case atStart => exact ⟨0, false, Nat.zero_le _, rfl, rfl, F0⟩
  case round =>
    clear F0
    obtain ⟨n, yg, hn, rfl, rfl, FI⟩ := hrel
    by_cases hlt : n < N
    · have h1 : (n : Int) < N := by omega
      go_upto_region 8 with (fail)
      have c14 : wr.cell? ⟨b, 14, none⟩ = some (bpP s.pt.y) := by
        obtain ⟨sA, _, _, kA, _, _, sm, _⟩ := FI.out
        obtain ⟨SA, cA, _⟩ := kA.is
        rw [← sm.pt]; exact c14_of cA
      have hlN : n < o.rs.length := by rw [HN.out]; exact hlt
      have RF := Lib.hid (fun v (bv : Below wr.heap.size wr v) => FS.out v hb n yg (FI.out.keep bv) hlN)
      clear FI FS hlN
      refine region_made_tailR (FoG w wr b S s x p A o hb n yg) (FoV b s.pt.y n p) 8 (by kernel_rfl) (by kernel_rfl) (by kernel_rfl) (foV_some _ _ _ _) ⟨c14, below_drew wr⟩ ?_
      simp only [List.take_succ_cons, List.take_zero, List.drop_succ_cons, List.drop_zero]
      refine wpMadeR_step ?_ ?_
      · intro m' w' hg hag
        go_simp
        exact ⟨rfl, hg.pure _ _ (by decide)⟩
      intro K hK
      rintro _ rfl
      go_simp
      refine hK _ _ ?_
      clear hK K
      refine wpMadeR_step ?_ ?_
      · intro m' w' hg hag
        go_simp
        exact ⟨rfl, hg.pure _ _ (by decide)⟩
      intro K hK
      rintro _ rfl
      go_simp
      refine hK _ _ ?_
      clear hK K
      refine wpMadeR_step ?_ ?_
      · intro m' w' hg hag
        go_simp
        exact ⟨rfl, hg.pure _ _ (by decide)⟩
      intro K hK
      rintro _ rfl
      go_simp
      refine hK _ _ ?_
      clear hK K
      refine wpMadeR_step ?_ ?_
      · intro m' w' hg hag
        have q1 := hg.1
        go_simp
        exact ⟨rfl, hg.pure _ _ (by decide)⟩
      intro K hK
      rintro _ rfl
      go_simp
      refine hK _ _ ?_
      clear hK K
      refine wpMadeR_step ?_ ?_
      · intro m' w' hg hag
        go_simp
        exact ⟨rfl, hg.pure _ _ (by decide)⟩
      intro K hK
      rintro _ rfl
      go_simp
      refine hK _ _ ?_
      clear hK K
      refine wpMadeR_step ?_ ?_
      · intro m' w' hg hag
        go_simp
        exact ⟨rfl, hg.pure _ _ (by decide)⟩
      intro K hK
      rintro _ rfl
      go_simp
      refine hK _ _ ?_
      clear hK K
      refine wpMadeR_step ?_ ?_
      · intro m' w' hg hag
        go_simp
        exact ⟨rfl, hg.pure _ _ (by decide)⟩
      intro K hK
      rintro _ rfl
      go_simp
      refine hK _ _ ?_
      clear hK K
      refine wpMadeR_step ?_ ?_
      · intro m' w' hg hag
        have h7 : m' 7 = none := hag 7 (.inl rfl)
        have hb7 := hg.2
        rw [h7] at hb7
        go_simp
        exact (RF.out w' hb7).mono fun e w3 ⟨r, s', he, hpt, hc, hf⟩ => ⟨_, he, ⟨r, rfl⟩, .seven (by obtain ⟨_, c⟩ := hc; rw [← hpt]; exact c14_of c) ⟨r, s', rfl, hpt, hc, hf⟩⟩
      intro K hK
      rintro _ ⟨r0, rfl⟩
      go_simp
      refine hK _ _ ?_
      clear hK K
      refine wpMadeR_nil ?_
      intro w' hg
      obtain ⟨r, s', er, hpt, ⟨S', c'⟩, FJ⟩ := hg.of7
      injection er with _ er
      subst er
      have FJ := Lib.hid FJ
      have HI := in_co c' r0
      rw [hpt] at HI
      have HI := Lib.hid HI
      clear hg c' hpt c14 RF
      go_wp2_with fail
      refine HI.out.mono ?_
      rintro e v2 ⟨rfl, b2⟩
      have FK := Lib.hid (FJ.out.keep b2)
      clear b2 HI FJ
      generalize inH (hAt s'.cf.nu 1 s'.yn) s'.yu r0 = iy at *
      cases iy
      all_goals
        go_wp2
        go_roundw
        case rel => exact ⟨n + 1, _, by omega, rfl, by go_num, FK⟩
        case measure => simp [intOf]; omega
    · obtain rfl : n = N := by omega
      have hlo := HN.out
      have ez : ((o.sz : Nat) : Int) = (K : Nat) + 2 := by have := HK.out; show ((o.n + 2 : Nat) : Int) = _; omega
      rcases HP.out with ⟨hO, hxp⟩ | ⟨hF, hx0⟩
      · have eO : decide (p ∈ A.O) = true := decide_eq_true hO
        have fi := FI.out
        obtain ⟨_, _, _, _, _, _, _, _, _, _, _, hd, _⟩ := FI.out
        rw [HN.out, HK.out, eO] at hd
        obtain ⟨d0, d1, d2, d3, d4, d5, d6, df⟩ := hd.seven
        have lt := hd.lt
        have Z0 := Lib.hid hd
        clear hd
        cases yg
        · have E1 := Lib.hid (FolI.end1 (hlo ▸ fi) HO.out HP.out fun _ => rfl)
          clear fi FI FS HP hlo hO hxp
          go_wp2_with fail
          refine (oWords_any (K : Nat) n o.age o.par o.grey o.noted true wr (by omega) (by omega)).mono ?_
          rintro e w9 ⟨rfl, b9⟩
          have RE := E1.out.keep b9
          rw [ez] at RE
          clear b9 d0 d1 d2 d3 d4 d5 d6 df
          go_wp2
          go_ret
          exact RE
        · have E2 := Lib.hid (FolI.end2 (p := p) (hb := hb) (show FolI w wr b S s p p A o hb o.rs.length true from by have q := fi; rw [hxp] at q; rw [hlo]; exact q) HO.out hO)
          have hlo8 := Lib.hid hlo
          clear fi FI FS HP hlo
          go_wp2_with fail
          refine E2.out.mono ?_
          rintro e w8 ⟨rfl, fo8, hd8⟩
          have E1 := Lib.hid fo8
          rw [hlo8.out, HK.out, eO] at hd8
          clear d0 d1 d2 d3 d4 d5 d6 df lt fo8 E2
          obtain ⟨d0, d1, d2, d3, d4, d5, d6, df⟩ := hd8.seven
          have lt := hd8.lt
          clear hd8
          go_wp2_with fail
          refine (oWords_any (K : Nat) n o.age o.par o.grey o.noted true w8 (by omega) (by omega)).mono ?_
          rintro e w9 ⟨rfl, b9⟩
          have RE := E1.out.keep b9
          rw [ez] at RE
          clear b9 d0 d1 d2 d3 d4 d5 d6 df
          go_wp2
          go_ret
          exact RE
      · have eO : decide (p ∈ A.O) = false := decide_eq_false (HFO.out hF)
        have fi := FI.out
        obtain ⟨_, _, _, _, _, _, _, _, _, _, _, hd, _⟩ := FI.out
        rw [HN.out, HK.out, eO] at hd
        obtain ⟨d0, d1, d2, d3, d4, d5, d6, df⟩ := hd.seven
        have lt := hd.lt
        have Z0 := Lib.hid hd
        clear hd
        have E1 := Lib.hid (FolI.end1 (hlo ▸ fi) HO.out HP.out fun z => absurd z (HFO.out hF))
        clear fi FI FS HP hlo hF hx0
        go_wp2_with fail
        refine (oWords_any (K : Nat) n o.age o.par o.grey o.noted false wr (by omega) (by omega)).mono ?_
        rintro e w9 ⟨rfl, b9⟩
        have RE := E1.out.keep b9
        rw [ez] at RE
        clear b9 d0 d1 d2 d3 d4 d5 d6 df
        go_wp2
        go_ret
        exact RE
end
end Gc
end Go.Proofs.YthmhehehomieiaaGreat

/- The next object of the half that is filled. -/
namespace Go.Proofs.YthmhehehomieiaaGreat
namespace Gc
open Go.RowKit

section
variable {A : Hp} {s : Co} {w : World} {b : Nat} {S : Nat → Prop}

theorem used_co (hC : Cr w b S s) : Calls Tryz.prog 68 #[bpP s.pt.y] w fun e w' => e = .returned (.int .i64 s.yu) ∧ Below w.heap.size w w' := by
  obtain ⟨P, own, h0, rfl, rfl⟩ := hC
  have : s.pt.y = P.y := by rw [h0.pts]; rfl
  rw [this]
  exact bUsed_any _ _ _ _ _ _ _ (h0.prt 2).1
theorem begin_co (hC : Cr w b S s) : Calls Tryz.prog 102 #[bpP s.pt.y] w fun e w' => e = .returned (.tuple #[.int .i64 (hAt s.cf.nu 1 s.yn), .int .i64 (hAt s.cf.nu 1 (!s.yn))]) ∧ Below w.heap.size w w' := by
  obtain ⟨P, own, h0, rfl, rfl⟩ := hC
  have : s.pt.y = P.y := by rw [h0.pts]; rfl
  rw [this]
  exact bBegin_any _ _ _ _ _ _ _ (h0.prt 2).1

theorem c22_of (hC : Cr w b S s) : w.cell? ⟨b, 22, none⟩ = some (.int .i64 s.scan) := by obtain ⟨_, _, _, _, hc, _⟩ := hC.cell; exact hc 22

/-- Where the cursor is. -/
def Scan (s : Co) (A : Hp) : Prop := s.scan = hAt s.cf.nu 1 s.yn + A.sum (A.F.take A.k)

theorem Fol.sum {p : Int} {B : Hp} (h : Fol p A B) (L : List Int) (hL : ∀ q ∈ L, ∃ o, A.ob q = some o) : B.sum L = A.sum L :=
  Hp.sum_same fun q hq => by
    obtain ⟨o, ho⟩ := hL q hq
    obtain ⟨v, h1, h2⟩ := h.sz q o ho
    rw [Hp.szf_of ho, Hp.szf_of h1, h2]

/-- The cursor stays where it is. -/
theorem Scan.near {s' : Co} {p x : Int} {B : Hp} (h : Scan s A) (i : Inv x A) (n : Near s s') (f : Fol p A B) : Scan s' B := by
  obtain ⟨l, hl⟩ := f.F
  unfold Scan
  rw [n.scan, n.cf, n.yn, f.k, hl, List.take_append_of_le_length i.kl, f.sum _ fun q hq => (i.dom q).2 (.inl (List.mem_of_mem_take hq))]
  exact h

/-- What a bit comes to: a core and its objects behind it. -/
structure Bit (w : World) (b : Nat) (S : Nat → Prop) (s : Co) (A : Hp) (s' : Co) (B : Hp) (w' : World) : Prop where
  co : CoR w b S s' w'
  sim : Sim s' B
  inv : Inv 0 B
  scan : Scan s' B
  cf : s'.cf = s.cf
  hs : s'.hs = s.hs
  E : B.E = A.E
  hsA : B.hs = A.hs
  mv : s'.mv = s.mv
  ph : s'.ph = s.ph
  gx : s'.gx = s.gx
  mi : s'.d.mi = s.d.mi
  al : (s'.d.al, s'.d.wd) = (s.d.al, s.d.wd)
  gr : s'.tot ≤ s.tot
  tr : Prims s A s' B
  D : B.D = A.D
  rem : s'.rx.length + s'.rm.count true ≤ s.rx.length + s.rm.count true
  rep : ∀ G f, Rep A G f → ∃ f', Rep B G f'

/-- How the next one of the half is gone through. -/
def HalfR (w : World) (b : Nat) (S : Nat → Prop) (s : Co) (A : Hp) (e : Ending) (w' : World) : Prop :=
  (A.k = A.F.length ∧ e = .returned (.tuple #[.int .i64 0, .bool false]) ∧ CoR w b S s w') ∨
  (∃ s' B n, A.k < A.F.length ∧ 2 ≤ n ∧ n ≤ 66 ∧ e = .returned (.tuple #[.int .i64 n, .bool true]) ∧ Bit w b S s A s' B w' ∧ B.X = A.X ∧
    B.row.length + B.F.length + 2 * B.un.length ≤ A.row.length + A.F.length + 2 * A.un.length ∧ B.k = A.k + 1 ∧
    ∃ p o t C, A.F[A.k]? = some p ∧ A.ob p = some o ∧ n = ((o.sz : Nat) : Int) ∧ FoD s A p t C ∧ s' = t.scanned (p + (o.sz : Nat)) ∧ B = { C with k := C.k + 1 })

set_option maxHeartbeats 4000000 in
set_option maxRecDepth 100000 in
theorem half_sim (hC : Cr w b S s) (h : Sim s A) (i : Inv 0 A) (hs : Scan s A) :
    Calls Tryz.prog 134 #[ptr b] w (HalfR w b S s A) := by
  have hu := h.laid.used
  have hv := h.laid.le
  have n1 := h.laid.n1
  have h2 := hAt_two s.cf.nu s.yn
  have kl := i.kl
  have C := Lib.hid (fun w1 (f : Below w.heap.size w w1) => hC.keep f)
  have c14 := c14_of hC
  have HB := Lib.hid (begin_co hC)
  have K0 := Lib.hid hC
  -- what is so at the half's end, and ahead of it
  have fin : Hid ((A.k = A.F.length ∧ s.scan = hAt s.cf.nu 1 s.yn + s.yu) ∨ (A.k < A.F.length ∧ s.scan < hAt s.cf.nu 1 s.yn + s.yu ∧ 0 ≤ s.scan ∧ ∀ w1, Below w.heap.size w w1 → Calls Tryz.prog 158 #[ptr b, .int .i64 s.scan] w1 fun e w' => ∃ n s1, 2 ≤ n ∧ n ≤ 66 ∧ e = .returned (.int .i64 n) ∧ s1.scan = s.scan ∧ CoR w b S s1 w' ∧
      ∀ w2, CoR w b S (s1.scanned (s.scan + n)) w2 → HalfR w b S s A (.returned (.tuple #[.int .i64 n, .bool true])) w2)) := Lib.hid (by
    rcases Nat.lt_or_ge A.k A.F.length with lt | ge
    · have hp : A.F[A.k]? = some A.F[A.k] := List.getElem?_eq_getElem lt
      generalize A.F[A.k] = p at hp
      have pF := List.mem_of_getElem? hp
      obtain ⟨o, ho⟩ := (i.dom p).2 (.inl pF)
      have ep : s.scan = p := by
        rw [h.laid.hf.at_ _ _ hp]; exact hs
      have sp := h.laid.hf.span pF ho
      have z2 := sz_two o
      have gd := (goodB_iff ..).1 (h.laid.lies.at_ p o ho).good
      have z66 : o.sz ≤ 66 := by have : o.sz = o.n + 2 := rfl; omega
      refine .inr ⟨lt, by omega, by omega, fun w1 f1 => ?_⟩
      rw [ep]
      refine (follow_sim (x := 0) (hC.keep f1) h i ho (.inr ⟨pF, rfl⟩)).mono ?_
      rintro e w' ⟨s', B, o', he, cr, h1, i1, nr, fo, ho1, lr, ls, far, _, fd⟩
      obtain ⟨l, hl⟩ := fo.F
      have hpB : B.F[B.k]? = some p := by rw [fo.k, hl, List.getElem?_append_left lt]; exact hp
      have i2 := i1.step hpB fun v hv r hr => by rw [ho1] at hv; cases hv; exact far r hr
      have sc := hs.near i nr.toNear fo
      have zz : o'.sz = o.sz := by unfold Ob.sz Ob.n; rw [lr, ls]
      refine ⟨(o.sz : Nat), s', by omega, by omega, he, by rw [nr.scan, ep], CoR.pre f1 cr, fun w2 cr2 => .inr ⟨s'.scanned (p + (o.sz : Nat)), { B with k := B.k + 1 }, (o.sz : Nat), lt, by omega, by omega, rfl, ?_, fo.X, fo.few, by show B.k + 1 = A.k + 1; rw [fo.k], p, o, s', B, hp, ho, rfl, fd, rfl, rfl⟩⟩
      exact
        { co := cr2, inv := i2, cf := nr.cf, hs := nr.hs, E := fo.E, hsA := fo.hs, mv := nr.mv, ph := nr.ph, gx := nr.gx, mi := nr.mi, al := nr.al, gr := nr.gr, tr := nr.tr.trans (.side rfl rfl rfl rfl rfl rfl rfl rfl), D := fo.D, rem := by show s'.rx.length + s'.rm.count true ≤ _; rw [nr.rx, nr.rm]; exact Nat.le_refl _
          rep := fun G f r => let ⟨f', r'⟩ := fo.rep G f r; ⟨f', r'.side rfl rfl rfl⟩
          sim := { h1 with laid := h1.laid.side rfl rfl rfl rfl }
          scan := by
            show p + ((o.sz : Nat) : Int) = hAt s'.cf.nu 1 s'.yn + (B.sum (B.F.take (B.k + 1)) : Nat)
            rw [List.take_add_one, hpB]
            show _ = _ + ((B.sum (B.F.take B.k ++ [p]) : Nat) : Int)
            rw [Hp.sum_app, Hp.sum_one, Hp.szf_of ho1, zz]
            have : s'.scan = hAt s'.cf.nu 1 s'.yn + B.sum (B.F.take B.k) := sc
            rw [nr.scan, ep] at this
            omega }
    · refine .inl ⟨by omega, ?_⟩
      have : s.scan = hAt s.cf.nu 1 s.yn + A.sum (A.F.take A.k) := hs
      rw [this, List.take_of_length_le ge, h.laid.hf.use])
  have hb : 0 ≤ hAt s.cf.nu 1 s.yn ∧ hAt s.cf.nu 1 s.yn ≤ 1048577 := by omega
  obtain ⟨hb0, hb1⟩ := hb
  obtain ⟨hy0, hy1, _⟩ := hu
  have hy2 : s.yu ≤ 1048576 := by omega
  clear h i hs hC h2 hv n1 kl hy1
  have hw : IntKind.i64.wrap (hAt s.cf.nu 1 s.yn + s.yu) = hAt s.cf.nu 1 s.yn + s.yu := IntWalk.i64_in _ (by omega)
  go_enter Tryz.func134, Tryz.ntmps134
  go_wp2_with fail
  refine HB.out.mono ?_
  rintro e w1 ⟨rfl, b1⟩
  have kk := C.out _ (below_trans b1 (below_drew w1))
  have bb := below_trans b1 (below_drew w1)
  clear b1 HB c14
  go_upto_region 2 with (fail)
  go_region_held3 (fun w' => w'.cell? ⟨b, 14, none⟩ = some (bpP s.pt.y) ∧ w'.cell? ⟨b, 22, none⟩ = some (.int .i64 s.scan)) (exact ⟨c14_of kk, c22_of kk⟩)
    ((go_at_call 68; refine (used_co kk).mono ?_; rintro e v1 ⟨rfl, b2⟩; have kk := kk.keep b2; have bb := below_trans bb b2; clear b2))
  have c22 := c22_of kk
  have BB := Lib.hid bb
  have KK := Lib.hid kk
  clear bb kk
  rcases fin.out with ⟨he, es⟩ | ⟨lt, ls, l0, FL⟩
  · go_wp2
    go_ret2
    exact .inl ⟨he, rfl, K0.out.stay BB.out⟩
  · have FL := Lib.hid (FL v1 BB.out)
    clear fin C K0
    go_wp2_with fail
    refine FL.out.mono ?_
    rintro e w3 ⟨n, s1, n2, n66, rfl, es1, cr, H⟩
    obtain ⟨S1, c1, m1⟩ := cr
    have d22 := c22_of c1
    rw [es1] at d22
    obtain ⟨_, _, _, _, _, hf, hl⟩ := c1.cell
    have HH := Lib.hid (H (w3.setCell ⟨b, 22, none⟩ (.int .i64 (s.scan + n))) (let ⟨S2, c2, m2⟩ := c1.setScan (s.scan + n); ⟨S2, c2, m1.trans m2⟩))
    clear H c1 m1 c22 FL KK BB
    have hd : true = decide (0 < n) := (decide_eq_true (by omega)).symm
    have re := HH.out
    rw [hd] at re
    have RE := Lib.hid re
    clear hd re HH
    go_wp2
    go_ret2
    exact RE.out
end
end Gc
end Go.Proofs.YthmhehehomieiaaGreat

/- The next one of the row. -/
namespace Go.Proofs.YthmhehehomieiaaGreat
namespace Gc
open Go.RowKit

section
variable {A : Hp} {s : Co} {w : World} {b : Nat} {S : Nat → Prop}

/-- The size of something old. -/
theorem size_co (hC : Cr w b S s) (x : Int) (x0 : -9223372036854775808 ≤ x) (x1 : x ≤ 9223372036854775807) (ho : s.oldB x = true) :
    ∃ o : Nat, w.cell? ⟨b, 15, none⟩ = some (spP o) ∧ Calls Tryz.prog 116 #[spP o, .int .i64 x] w fun e w' => ∃ v, e = .returned (.tuple #[.int .i64 v, .bool true]) ∧ Below w.heap.size w w' := by
  obtain ⟨P, own, h0, rfl, rfl⟩ := hC
  obtain ⟨pb, ub, hp, _⟩ := h0.prt 3
  refine ⟨P.o, h0.cell 15, (mSize_any _ _ _ _ _ _ _ x w hp x0 x1).mono ?_⟩
  rintro e w' ⟨rfl, b1⟩
  unfold Co.oldB at ho
  unfold sizeV
  cases e : (cellsP (1 + 2 * s.cf.nu) s.cf.pz s.pgs).find? (hitB x) with
  | none => rw [e] at ho; cases ho
  | some c => exact ⟨c.words, rfl, b1⟩

/-- How the next one of the row is gone through. -/
def RowR (w : World) (b : Nat) (S : Nat → Prop) (s : Co) (A : Hp) (e : Ending) (w' : World) : Prop :=
  ∃ s' B n, 0 ≤ n ∧ n ≤ 66 ∧ e = .returned (.int .i64 n) ∧ Bit w b S s A s' B w' ∧ B.X = A.X ∧ B.row.length + B.F.length + 2 * B.un.length + 1 ≤ A.row.length + A.F.length + 2 * A.un.length ∧ B.k = A.k ∧
    ∃ p row o, A.row = p :: row ∧ A.ob p = some o ∧ n = ((o.sz : Nat) : Int) ∧ FoD (s.rowed row) { A with row := row } p s' B

set_option maxHeartbeats 4000000 in
set_option maxRecDepth 100000 in
theorem row_sim (hC : Cr w b S s) (h : Sim s A) (i : Inv 0 A) (hs : Scan s A) {p : Int} {row : List Int} (hr : A.row = p :: row) :
    Calls Tryz.prog 131 #[ptr b] w (RowR w b S s A) := by
  have wl := hC.wl
  have pO := i.row p (by rw [hr]; simp)
  obtain ⟨o, ho⟩ := (i.dom p).2 (.inr (.inr pO))
  have bp := h.bound i wl (i.ob_ok ho)
  have i1 := i.pop hr
  have er : s.row = p :: row := h.row.symm.trans hr
  have h1 : Sim (s.rowed row) { A with row := row } :=
    { h with
      laid := h.laid.side rfl rfl rfl rfl
      row := rfl
      few := by have := h.few; rw [hr] at this; show 2 * ((row.length : Int) + A.un.length) ≤ s.cf.nu; simp at this; omega }
  have old1 : (s.rowed row).oldB p = true := (h.old_iff p).2 pO
  have gd := (goodB_iff ..).1 (h.laid.lies.at_ p o ho).good
  have z2 := sz_two o
  have z66 : o.sz ≤ 66 := by have : o.sz = o.n + 2 := rfl; omega
  have hs1 : Scan (s.rowed row) { A with row := row } := hs
  -- what the walk is told
  have SZ := Lib.hid (fun w2 S2 (c : Cr w2 b S2 (s.rowed row)) => size_co c p (by omega) (by omega) old1)
  have FL : Hid (∀ w2, CoR w b S (s.rowed row) w2 → ∀ w3, Below w2.heap.size w2 w3 → Calls Tryz.prog 158 #[ptr b, .int .i64 p] w3 fun e w' => ∃ n, e = .returned (.int .i64 n) ∧ RowR w b S s A (.returned (.int .i64 n)) w') := Lib.hid (by
    intro w2 cr w3 f3
    obtain ⟨S2, c2, m2⟩ := cr
    refine (follow_sim (x := p) (c2.keep f3) h1 i1 ho (.inl ⟨pO, rfl⟩)).mono ?_
    rintro e w' ⟨s', B, o', he, cr, hB, iB, nr, fo, ho1, lr, ls, far, _, fd⟩
    have sc := Scan.near (p := p) hs1 i1 nr.toNear fo
    obtain ⟨S4, c4, m4⟩ := cr
    refine ⟨(o.sz : Nat), he, s', B, (o.sz : Nat), by omega, by omega, rfl, ?_, fo.X, ?_, fo.k, p, row, o, hr, ho, rfl, fd⟩
    · exact
        { co := ⟨S4, c4, (m2.post f3).trans m4⟩, sim := hB, inv := iB, scan := sc, cf := nr.cf, hs := nr.hs, E := fo.E, hsA := fo.hs, mv := nr.mv, ph := nr.ph, gx := nr.gx, mi := nr.mi, al := nr.al, gr := nr.gr, tr := nr.tr.pre rfl rfl rfl rfl rfl rfl rfl rfl, D := fo.D, rem := by rw [nr.rx, nr.rm]; exact Nat.le_refl _
          rep := fun G f r => fo.rep G f (r.side rfl rfl rfl) }
    · have := fo.few
      rw [hr, List.length_cons]
      have e2 : row.length + A.F.length + 2 * A.un.length = row.length + A.F.length + 2 * ({ A with row := row } : Hp).un.length := rfl
      have : B.row.length + B.F.length + 2 * B.un.length ≤ row.length + A.F.length + 2 * ({ A with row := row } : Hp).un.length := this
      omega)
  obtain ⟨AA, c, LL, kb, kl, c25, qu, hne, hT⟩ := hC.row
  have b25f := kb.frozen 25
  have lb := kb.lt
  rw [er] at c25 qu
  obtain ⟨g, off, rfl, hg, hx, hf⟩ := qu.at_ (by simp)
  have x0 := hx 0 p rfl
  rw [Nat.add_zero] at x0
  have hgb : g ≠ b := hne g rfl
  have cm := qu.max
  have le := qu.le
  unfold maxLen at cm
  simp only [List.length_cons] at c25 qu le
  have hq : ∀ (off' c' : Nat), Qu w (some ⟨g, off', none⟩) row.length c' row → CoR w b S (s.rowed row) (w.setCell ⟨b, 25, none⟩ (.slice (some ⟨g, off', none⟩) row.length c')) := fun off' c' q =>
    hT (some ⟨g, off', none⟩) c' row w ⟨Frm.refl _ _, fun k hk => .inl hk⟩ q
  have HQ := Lib.hid hq
  have QU := Lib.hid qu
  clear hC h i i1 h1 hs hs1 wl pO ho kb kl hT hx hf hq hne qu old1 gd z2 z66 hr er
  by_cases hc : c = 1
  · subst hc
    obtain ⟨q0, er0⟩ := QU.out.tail1
    have el : row.length = 0 := er0
    clear QU
    have cr0 := HQ.out off 0 (el ▸ q0)
    rw [el] at cr0
    have CR := Lib.hid cr0
    clear cr0
    go_enter Tryz.func131, Tryz.ntmps131
    go_upto_region 3 with (fail)
    generalize w.setCell ⟨b, 25, none⟩ (.slice (some ⟨g, off, none⟩) 0 0) = w2 at *
    obtain ⟨S2, c2, m2⟩ := CR.out
    obtain ⟨o1, c15, hz⟩ := SZ.out w2 S2 c2
    have HZ := Lib.hid hz
    clear c2 m2 hz SZ x0 c25 b25f
    go_wp2_with fail
    refine HZ.out.mono ?_
    rintro e w3 ⟨v, rfl, b3⟩
    have FF := Lib.hid (FL.out w2 CR.out w3 b3)
    clear b3 HZ FL CR c15
    go_wp2_with fail
    refine FF.out.mono ?_
    rintro e w4 ⟨n, rfl, re⟩
    have RE := Lib.hid re
    clear re FF
    go_wp2
    go_ret
    exact RE.out
  · have hc1 : 1 < c := by omega
    have CR := Lib.hid (HQ.out (off + 1) (c - 1) (QU.out.tail hc1))
    go_enter Tryz.func131, Tryz.ntmps131
    go_upto_region 3 with (fail)
    generalize w.setCell ⟨b, 25, none⟩ (.slice (some ⟨g, (off + 1), none⟩) row.length (c - 1)) = w2 at *
    obtain ⟨S2, c2, m2⟩ := CR.out
    obtain ⟨o1, c15, hz⟩ := SZ.out w2 S2 c2
    have HZ := Lib.hid hz
    clear c2 m2 hz SZ x0 c25 b25f
    go_wp2_with fail
    refine HZ.out.mono ?_
    rintro e w3 ⟨v, rfl, b3⟩
    have FF := Lib.hid (FL.out w2 CR.out w3 b3)
    clear b3 HZ FL CR c15
    go_wp2_with fail
    refine FF.out.mono ?_
    rintro e w4 ⟨n, rfl, re⟩
    have RE := Lib.hid re
    clear re FF
    go_wp2
    go_ret
    exact RE.out

end
end Gc
end Go.Proofs.YthmhehehomieiaaGreat

/- What is noted is gone through: what each of its objects comes to. -/
namespace Go.Proofs.YthmhehehomieiaaGreat
namespace Gc
open Go.RowKit

/-- Objects have left, and others were written to, but hold the same. -/
structure Fols (A B : Hp) : Prop where
  E : B.E = A.E
  hs : B.hs = A.hs
  k : B.k = A.k
  X : B.X = A.X
  Y : ∀ q, A.Y q → B.Y q
  D : B.D = A.D
  F : ∃ l, B.F = A.F ++ l
  O : ∃ l, B.O = A.O ++ l ∧ B.row = A.row ++ l
  rep : ∀ G f, Rep A G f → ∃ f', Rep B G f'
  sz : ∀ q o, A.ob q = some o → ∃ v, B.ob q = some v ∧ v.sz = o.sz
  few : B.row.length + B.F.length + 2 * B.un.length ≤ A.row.length + A.F.length + 2 * A.un.length

theorem Fol.fols {p : Int} {A B : Hp} (h : Fol p A B) : Fols A B := ⟨h.E, h.hs, h.k, h.X, h.Y, h.D, h.F, h.O, h.rep, h.sz, h.few⟩
theorem Fols.refl (A : Hp) : Fols A A := (Fol.refl 0 A).fols
theorem Fols.trans {A B C : Hp} (h : Fols A B) (k : Fols B C) : Fols A C := by
  obtain ⟨l1, f1⟩ := h.F
  obtain ⟨l2, f2⟩ := k.F
  obtain ⟨m1, o1, r1⟩ := h.O
  obtain ⟨m2, o2, r2⟩ := k.O
  exact
    { E := k.E.trans h.E, hs := k.hs.trans h.hs, k := k.k.trans h.k, X := k.X.trans h.X, Y := fun q e => k.Y q (h.Y q e), D := k.D.trans h.D
      F := ⟨l1 ++ l2, by rw [f2, f1, List.append_assoc]⟩
      O := ⟨m1 ++ m2, by rw [o2, o1, List.append_assoc], by rw [r2, r1, List.append_assoc]⟩
      rep := fun G f r => by
        obtain ⟨f', r⟩ := h.rep G f r
        exact k.rep G f' r
      sz := fun q o ho => by
        obtain ⟨v, h1, h2⟩ := h.sz q o ho
        obtain ⟨u, h3, h4⟩ := k.sz q v h1
        exact ⟨u, h3, h4.trans h2⟩
      few := Nat.le_trans k.few h.few }

/-- An object that has been looked at. -/
def DoneP (B : Hp) (q : Int) : Prop := ∃ v, B.ob q = some v ∧ (v.noted = true → B.Y q) ∧ ∀ r ∈ v.rs, r ∈ B.E → q ∈ B.row

section
variable {A B C : Hp} {s : Co} {w : World} {b : Nat} {S : Nat → Prop} {p q : Int} {o : Ob}

theorem DoneP.fol (h : DoneP B q) (f : Fol p B C) (hq : q ∉ B.E) (ne : q ≠ p) : DoneP C q := by
  obtain ⟨v, h1, h2, h3⟩ := h
  obtain ⟨l, _, hr⟩ := f.O
  exact ⟨v, f.ob q v hq ne h1, fun e => f.Y q (h2 e), fun r hr' e => by rw [hr]; exact List.mem_append_left _ (h3 r hr' (by rw [← f.E]; exact e))⟩

/-- What is not noted need not be looked at. -/
theorem DoneP.plain (i : Inv 0 B) (hp : p ∈ B.O) (ho : B.ob p = some o) (hn : o.noted = false) : DoneP B p := by
  refine ⟨o, ho, fun e => by (rw [hn] at e; cases e), fun r hr e => ?_⟩
  rcases (i.old p o hp (by have := i.pos p (.inr (.inr hp)); omega) ho r hr).2 e with z | ⟨z, _⟩
  · exact z
  · rw [hn] at z; cases z

/-- It is not noted any more. -/
theorem nt_clear (h : Sim s B) (i : Inv 0 B) (hp : p ∈ B.O) (ho : B.ob p = some o) :
    Sim (s.wrote (s.ws.set p.toNat (wordI (o.n : Nat) o.rs.length o.age o.par o.grey false true))) (B.put p { o with noted := false }) ∧ Inv p (B.put p { o with noted := false }) ∧ Fol p B (B.put p { o with noted := false }) := by
  have at_ := h.laid.lies.at_ p o ho
  have gd := (goodB_iff ..).1 at_.good
  have eO : decide (p ∈ B.O) = true := decide_eq_true hp
  have hh := h.laid.lies.head ho o.age o.par o.grey false (by omega) (by omega) (by omega) (by omega)
  rw [eO] at hh
  refine ⟨h.put (o' := { o with noted := false }) ho rfl rfl (by simp) hh, ?_, .put ho (fun e => i.eo p e hp) rfl rfl rfl⟩
  exact (Inv.weak i).put (o' := { o with noted := false }) ho rfl (i.ref p o ho) (fun _ n => absurd rfl n) (fun e => by cases e) (fun e => absurd hp (i.fo p (List.mem_of_mem_take e)))

/-- An object of a part: what is known of it, and how it is looked at. -/
theorem nt_follow {w1 : World} {S1 : Nat → Prop} (c1 : Cr w1 b S1 (s.wrote (s.ws.set p.toNat (wordI (o.n : Nat) o.rs.length o.age o.par o.grey false true)))) (h : Sim s B) (i : Inv 0 B) (hp : p ∈ B.O) (ho : B.ob p = some o) :
    Calls Tryz.prog 158 #[ptr b, .int .i64 p] w1 fun e w' => ∃ s' C, e = .returned (.int .i64 (o.sz : Nat)) ∧ CoR w1 b S1 s' w' ∧ Sim s' C ∧ Inv 0 C ∧ NearT s B s' C ∧ Fol p B C ∧ DoneP C p ∧ FoD (s.wrote (s.ws.set p.toNat (wordI (o.n : Nat) o.rs.length o.age o.par o.grey false true))) (B.put p { o with noted := false }) p s' C := by
  obtain ⟨h2, i2, f2⟩ := nt_clear h i hp ho
  refine (follow_sim (x := p) c1 h2 i2 (o := { o with noted := false }) upd_self (.inl ⟨hp, rfl⟩)).mono ?_
  rintro e w' ⟨s', C, o', he, cr, hC, iC, nr, fo, ho1, lr, ls, far, hY, fd⟩
  exact ⟨s', C, he, cr, hC, iC, ((Same.wrote s _).near.t (.put (o' := { o with noted := false }) (fun e => i.eo p e hp) ho rfl rfl rfl rfl)).trans nr, f2.trans fo, ⟨o', ho1, fun e => (hY e).resolve_left (fun z => by cases z), fun r hr e => absurd e (far r hr)⟩, fd⟩

/-- So far j of the objects have been looked at. -/
def NtI (w wr : World) (b : Nat) (S : Nat → Prop) (s : Co) (A : Hp) (ys : List Int) (ao : Option Addr) (cap j : Nat) (tot : Int) : Prop :=
  ∃ s' B, Cw w wr S (fun k => blkOf ao = some k) b s' ∧ Sim s' B ∧ Inv 0 B ∧ NearT s A s' B ∧ Fols A B ∧ (∀ (k : Nat) (q : Int), k < j → ys[k]? = some q → DoneP B q) ∧ Qu wr ao ys.length cap ys ∧ 0 ≤ tot ∧ tot ≤ 66 * j ∧ PartD (ys.take j) s A tot s' B

theorem NtI.keep {wr w1 : World} {ys : List Int} {ao : Option Addr} {cap j : Nat} {tot : Int} (h : NtI w wr b S s A ys ao cap j tot) (f : Below wr.heap.size wr w1) : NtI w w1 b S s A ys ao cap j tot := by
  obtain ⟨s', B, k, h1, i1, n1, f1, d1, q1, t⟩ := h
  exact ⟨s', B, k.keep f, h1, i1, n1, f1, d1, q1.keep f, t⟩

/-- One that is not noted. -/
theorem NtI.skip {wr : World} {ys : List Int} {ao : Option Addr} {cap j : Nat} {tot : Int} (h : NtI w wr b S s A ys ao cap j tot) (hA : ∀ q ∈ ys, q ∈ A.O) (hj : ys[j]? = some p) (hn : ∀ s' B o, Sim s' B → Near s s' → B.ob p = some o → (∃ S', Cr wr b S' s') → o.noted = false) : NtI w wr b S s A ys ao cap (j + 1) tot := by
  obtain ⟨s', B, k, h1, i1, n1, f1, d1, q1, t0, t1, pd⟩ := h
  have hp : p ∈ B.O := by
    obtain ⟨l, hl, _⟩ := f1.O
    rw [hl]; exact List.mem_append_left _ (hA p (List.mem_of_getElem? hj))
  obtain ⟨o, ho⟩ := (i1.dom p).2 (.inr (.inr hp))
  obtain ⟨S', c, _⟩ := k.is
  refine ⟨s', B, k, h1, i1, n1, f1, fun m q hm hq => ?_, q1, t0, by omega, by rw [show ys.take (j + 1) = ys.take j ++ [p] from by rw [List.take_add_one, hj]; rfl]; exact pd.snoc_skip ho (hn s' B o h1 n1.toNear ho ⟨S', c⟩)⟩
  by_cases e : m = j
  · subst e
    rw [hj] at hq; cases hq
    exact .plain i1 hp ho (hn s' B o h1 n1.toNear ho ⟨S', c⟩)
  · exact d1 m q (by omega) hq
end
end Gc
end Go.Proofs.YthmhehehomieiaaGreat

/- A part of what is noted is gone through. -/
namespace Go.Proofs.YthmhehehomieiaaGreat
namespace Gc
open Go.RowKit

section
variable {A : Hp} {s : Co} {w : World} {b : Nat} {S : Nat → Prop}

theorem starts_co (hC : Cr w b S s) (f t : Int) :
    ∃ o : Nat, w.cell? ⟨b, 15, none⟩ = some (spP o) ∧ Calls Tryz.prog 160 #[spP o, .int .i64 f, .int .i64 t] w fun e w' => ∃ ao cap, e = .returned (.slice ao (startsP s.F0 s.cf.pz s.pgs f t).length cap) ∧ Qu w' ao (startsP s.F0 s.cf.pz s.pgs f t).length cap (startsP s.F0 s.cf.pz s.pgs f t) ∧ (∀ k, blkOf ao = some k → w.heap.size ≤ k) ∧ Below w.heap.size w w' := by
  obtain ⟨P, own, h0, rfl, rfl⟩ := hC
  obtain ⟨pb, ub, hp, _⟩ := h0.prt 3
  refine ⟨P.o, h0.cell 15, (mStarts_any _ _ _ _ _ _ _ f t w hp).mono ?_⟩
  rintro e w' ⟨u, rfl, ow, bl⟩
  generalize startsP (1 + 2 * s.cf.nu) s.cf.pz s.pgs f t = ys at *
  rcases Nat.eq_zero_or_pos ys.length with z | z
  · obtain ⟨ao, cap, rfl, _⟩ := ow.at_
    have hl : ys = [] := List.eq_nil_of_length_eq_zero z
    subst hl
    rcases ow.2 with ⟨e, _⟩ | ⟨g, cp, cur, e, hB, hg, hn, hm, hs, ht⟩
    · injection e with e1 _ e3
      subst e1; subst e3
      exact ⟨none, 0, rfl, Qu.nil _, fun k e => (by cases e), bl⟩
    · injection e with e1 _ e3
      subst e1; subst e3
      exact ⟨_, _, rfl, ⟨rfl, Nat.zero_le _, hm, .inr ⟨g, 0, cur, rfl, hg, by omega, fun i x hx => by simp at hx⟩⟩, fun k e => (by cases e; exact hB), bl⟩
  · obtain ⟨g, cap, rfl, hB, q⟩ := Qu.of_own (by omega) ow
    exact ⟨_, cap, rfl, q, fun k e => (by cases e; exact hB), bl⟩

/-- How a part is gone through. -/
def PartR (w : World) (b : Nat) (S : Nat → Prop) (s : Co) (A : Hp) (f t : Int) (e : Ending) (w' : World) : Prop :=
  ∃ s' B n, 0 ≤ n ∧ n ≤ 300000 ∧ e = .returned (.int .i64 n) ∧ CoR w b S s' w' ∧ Sim s' B ∧ Inv 0 B ∧ NearT s A s' B ∧ Fols A B ∧ (∀ q, q ∈ A.O → f ≤ q → q < t → DoneP B q) ∧ PartD (startsP s.F0 s.cf.pz s.pgs f t) s A n s' B

set_option maxHeartbeats 8000000 in
set_option maxRecDepth 100000 in
theorem noted_sim (hC : Cr w b S s) (h : Sim s A) (i : Inv 0 A) (f t : Int) :
    Calls Tryz.prog 133 #[ptr b, .int .i64 f, .int .i64 t] w (PartR w b S s A f t) := by
  obtain ⟨o1, c15, H1⟩ := starts_co hC f t
  have H1 := Lib.hid H1
  have mem : ∀ q, q ∈ startsP s.F0 s.cf.pz s.pgs f t ↔ q ∈ A.O ∧ f ≤ q ∧ q < t := fun q => by
    unfold startsP
    rw [List.mem_map, h.laid.old]
    constructor
    · rintro ⟨c, hc, rfl⟩
      obtain ⟨h1, h2⟩ := List.mem_filter.1 hc
      simp only [inR, Bool.and_eq_true, decide_eq_true_eq] at h2
      exact ⟨⟨c, ⟨h1, h2.1.1⟩, rfl⟩, h2.1.2, h2.2⟩
    · rintro ⟨⟨c, ⟨h1, h2⟩, rfl⟩, h3, h4⟩
      refine ⟨c, List.mem_filter.2 ⟨h1, ?_⟩, rfl⟩
      simp only [inR, Bool.and_eq_true, decide_eq_true_eq]
      exact ⟨⟨h2, h3⟩, h4⟩
  have few : (startsP s.F0 s.cf.pz s.pgs f t).length ≤ 4096 := starts_few hC.may.pz1 hC.wf.1 hC.wf.2.2
  generalize hys : startsP s.F0 s.cf.pz s.pgs f t = ys at *
  have EY := Lib.hid hys
  clear hys
  have ME := Lib.hid mem
  have st : Hid (∀ w1 ao cap, Below w.heap.size w w1 → Qu w1 ao ys.length cap ys → (∀ k, blkOf ao = some k → w.heap.size ≤ k ∧ k < w1.heap.size) → NtI w w1 b S s A ys ao cap 0 0) := Lib.hid (fun w1 ao cap bl q hk =>
    ⟨s, A, hC.way.grow bl (fun k e => .inr (hk k e)), h, i, .refl s, .refl A, fun k q hk => absurd hk (Nat.not_lt_zero k), q, Int.le_refl _, by omega, .nil⟩)
  clear hC h i mem
  go_enter Tryz.func133, Tryz.ntmps133
  go_wp2_with fail
  refine H1.out.mono ?_
  rintro e w1 ⟨ao, cap, rfl, q1, hk, bl⟩
  have NI := Lib.hid (st.out w1 ao cap bl q1 fun k e => ⟨hk k e, by
    rcases q1.lies with ⟨rfl, _⟩ | ⟨g, off, cs, rfl, hB, _⟩
    · cases e
    · cases e; exact hB.lt⟩)
  clear q1 hk bl H1 st c15
  go_wp2_with fail
  go_loopw [7, 9, 10, 11, 20] (fun s7 _ _ _ s20 wr => ∃ (j : Nat) (tot : Int), j ≤ ys.length ∧ s7 = .int .i64 tot ∧ s20 = .int .i64 j ∧ Hid (NtI w wr b S s A ys ao cap j tot)) (fun _ _ _ _ s20 _ => ys.length - (intOf s20).toNat)
  case atStart => exact ⟨0, 0, Nat.zero_le _, rfl, rfl, NI⟩
  case round =>
    clear NI
    obtain ⟨j, tot, hj, rfl, rfl, NI⟩ := hrel
    by_cases hlt : j < ys.length
    · have h1 : (j : Int) < ys.length := by omega
      have hp : ys[j]? = some ys[j] := List.getElem?_eq_getElem hlt
      generalize ys[j] = p at hp
      obtain ⟨s1, B, k1, hB, iB, nr, fo, dn, q1, t0, t1, pd⟩ := NI.out
      have tk : ys.take (j + 1) = ys.take j ++ [p] := by rw [List.take_add_one, hp]; rfl
      have pA : p ∈ A.O := ((ME.out p).1 (List.mem_of_getElem? hp)).1
      have pB : p ∈ B.O := by
        obtain ⟨l, hl, _⟩ := fo.O
        rw [hl]; exact List.mem_append_left _ pA
      obtain ⟨o, ho⟩ := (iB.dom p).2 (.inr (.inr pB))
      have at_ := hB.laid.lies.at_ p o ho
      have eO : decide (p ∈ B.O) = true := decide_eq_true pB
      rw [eO] at at_
      have p0 := iB.ob_pos ho
      have gd := (goodB_iff ..).1 at_.good
      have z66 : o.sz ≤ 66 := by have : o.sz = o.n + 2 := rfl; omega
      have fit := at_.fit
      have s2 := sz_two o
      obtain ⟨S1, c1, m1, z1⟩ := k1.is
      have pl : p < s1.ws.length := by omega
      obtain ⟨a, c13, HD⟩ := head_co c1 p _ _ _ _ _ _ _ p0 at_.head at_.good
      obtain ⟨g, off, rfl, hg, hx, hf⟩ := q1.at_ (by omega)
      have x0 := hx j p hp
      -- one that is not noted
      have SK : Hid (o.noted = false → ∀ w2 w3, CoR wr b S1 s1 w2 → Below w2.heap.size w2 w3 → NtI w w3 b S s A ys (some ⟨g, off, none⟩) cap (j + 1) tot) := Lib.hid (by
        intro no w2 w3 r f3
        obtain ⟨k2, p2⟩ := k1.after m1 z1 r
        refine ⟨s1, B, k2.keep f3, hB, iB, nr, fo, fun m q hm hq => ?_, (q1.kp p2 fun k e => e).keep f3, t0, by omega, by rw [tk]; exact pd.snoc_skip ho no⟩
        by_cases e : m = j
        · subst e
          rw [hp] at hq; cases hq
          exact .plain iB pB ho no
        · exact dn m q (by omega) hq)
      -- one that is
      have YS : Hid (∀ w2, CoR wr b S1 s1 w2 → o.noted = true → ∀ Z3 w3, Cw w w3 S Z3 b (s1.wrote (s1.ws.set p.toNat (wordI (o.n : Nat) o.rs.length o.age o.par o.grey false true))) → (∀ k, blkOf (some ⟨g, off, none⟩) = some k → Z3 k) → Qu w3 (some ⟨g, off, none⟩) ys.length cap ys →
          Calls Tryz.prog 158 #[ptr b, .int .i64 p] w3 fun e w' => ∃ n, 0 ≤ n ∧ n ≤ 66 ∧ e = .returned (.int .i64 n) ∧ NtI w w' b S s A ys (some ⟨g, off, none⟩) cap (j + 1) (tot + n)) := Lib.hid (by
        intro w2 _ nt Z3 w3 k3 hz q3
        obtain ⟨S3, c3, m3, z3⟩ := k3.is
        refine (nt_follow c3 hB iB pB ho).mono ?_
        rintro e w' ⟨s', C, he, cr, hC, iC, nr2, f2, dp, fd⟩
        obtain ⟨k4, p4⟩ := k3.after m3 z3 cr
        refine ⟨(o.sz : Nat), by omega, by omega, he, s', C, k4.grow (Below.refl _ _) (fun k e => .inl (hz k e)), hC, iC, nr.trans nr2, fo.trans f2.fols, fun m q hm hq => ?_, q3.kp p4 hz, by omega, by omega, by rw [tk]; exact pd.snoc_one ho nt fd⟩
        by_cases e : m = j
        · subst e
          rw [hp] at hq; cases hq
          exact dp
        · have qA : q ∈ A.O := ((ME.out q).1 (List.mem_of_getElem? hq)).1
          have qB : q ∈ B.O := by
            obtain ⟨l, hl, _⟩ := fo.O
            rw [hl]; exact List.mem_append_left _ qA
          by_cases e2 : q = p
          · rw [e2]; exact dp
          · exact (dn m q (by omega) hq).fol f2 (fun z => iB.eo q z qB) e2)
      have K1 := Lib.hid (And.intro k1 (And.intro m1 (And.intro z1 (And.intro q1 c1))))
      have HD := Lib.hid HD
      have GD := Lib.hid at_.good
      have T1 : tot ≤ 300000 := by omega
      clear NI k1 hB iB nr fo dn q1 pd tk pA pB ho at_ eO gd z66 fit s2 c1 m1 z1 hx t1
      generalize hnt : o.noted = nt at *
      go_wp2_with fail
      refine HD.out.mono ?_
      rintro e w2 ⟨rfl, r2⟩
      obtain ⟨k2, p2⟩ := K1.out.1.after K1.out.2.1 K1.out.2.2.1 r2
      have al := (Below.refl _ w2).alloc (Nat.le_refl _) (.cells #[.int .i64 (o.n : Nat), .int .i64 o.rs.length, .int .i64 o.age, .int .i64 o.par, .bool o.grey, .bool nt, .bool true] 93)
      have gne : g ≠ w2.heap.size := by have : wr.heap.size ≤ w2.heap.size := p2.size; omega
      have SKR := Lib.hid (fun e => SK.out e w2 _ r2 al)
      have YSR := Lib.hid (YS.out w2 r2)
      have K3 := Lib.hid (k2.box (.cells #[.int .i64 (o.n : Nat), .int .i64 o.rs.length, .int .i64 o.age, .int .i64 o.par, .bool o.grey, .bool nt, .bool true] 93))
      have z3 := Blk.new w2 #[.int .i64 (o.n : Nat), .int .i64 o.rs.length, .int .i64 o.age, .int .i64 o.par, .bool o.grey, .bool nt, .bool true] 93
      have Q3 := Lib.hid ((K1.out.2.2.2.1.kp p2 fun k e => e).keep al)
      clear r2 k2 p2 al HD SK YS K1 c13 x0 hf hg
      go_upto_region 6 with (fail)
      generalize w2.alloc (.cells #[.int .i64 (o.n : Nat), .int .i64 o.rs.length, .int .i64 o.age, .int .i64 o.par, .bool o.grey, .bool nt, .bool true] 93) = w3 at *
      generalize w2.heap.size = hb at *
      have Z3 := Lib.hid z3
      obtain ⟨d0, d1, d2, d3, d4, d5, d6, df⟩ := z3.seven
      have lt := z3.lt
      clear z3
      cases nt
      · clear YSR K3 Q3 Z3 GD
        go_wp2
        go_roundw
        case rel => exact ⟨j + 1, tot, by omega, rfl, by go_num, Lib.hid (SKR.out rfl)⟩
        case measure => simp [intOf]; omega
      · clear SKR
        go_upto_region 8 with (fail)
        clear d0 d1 d2 d3 d4 d5 d6 df lt
        have z4 := Z3.out.set_ 5 (.bool false)
        simp only [List.setIfInBounds_toArray, List.set_cons_zero, List.set_cons_succ] at z4
        have Z4 := Lib.hid z4
        have f4 : Frm (fun k => k = hb) w3 (w3.setCell ⟨hb, 5, none⟩ (.bool false)) := (Frm.refl (fun k => k = hb) w3).setCell (p := ⟨hb, 5, none⟩) (fun _ => rfl) (.bool false)
        have K4 := Lib.hid (K3.out.write f4 fun k e => .inr e)
        have Q4 := Lib.hid (Q3.out.frm f4 fun k e => by cases e; exact gne)
        generalize w3.setCell ⟨hb, 5, none⟩ (.bool false) = w4 at *
        clear K3 Z3 z4 f4 Q3
        obtain ⟨d0, d1, d2, d3, d4, d5, d6, df⟩ := Z4.out.seven
        have lt := Z4.out.lt
        have K5 := Lib.hid (K4.out.keep (below_drew w4))
        have Q5 := Lib.hid (Q4.out.keep (below_drew w4))
        obtain ⟨S5, c5, m5, n5⟩ := K5.out.is
        obtain ⟨a5, e13, hm⟩ := setHead_co c5 p _ _ _ _ o.grey false true GD.out (by omega) pl
        have c13 : w4.cell? ⟨b, 13, Option.none⟩ = some (arP a5) := e13
        have HM := Lib.hid hm
        have M5 := Lib.hid m5
        have N5 := Lib.hid n5
        clear c5 m5 n5 hm K4 Z4 e13 Q4
        go_still_tail 6, (by kernel_rfl)
        change wpList _ _ _ _ _ w4.drew
        clear d0 d1 d2 d3 d4 d5 d6 df c13 lt
        go_wp2_with fail
        refine HM.out.mono ?_
        rintro e w6 ⟨rfl, r6⟩
        obtain ⟨k6, p6⟩ := K5.out.after M5.out N5.out r6
        have YF := Lib.hid (YSR.out (by simp) _ w6 k6 (fun k e => .inl e) (Q5.out.kp p6 fun k e => .inl e))
        clear k6 p6 r6 K5 Q5 HM M5 N5 YSR
        go_wp2_with fail
        refine YF.out.mono ?_
        rintro e w7 ⟨n, n0, n66, rfl, ni⟩
        have NI := Lib.hid ni
        clear ni YF
        go_wp2
        go_roundw
        case rel => exact ⟨j + 1, tot + n, by omega, by go_num, by go_num, NI⟩
        case measure => simp [intOf]; omega
    · obtain rfl : j = ys.length := by omega
      have RE : Hid (PartR w b S s A f t (.returned (.int .i64 tot)) wr) := by
        obtain ⟨s', B, k1, hB, iB, nr, fo, dn, _, t0, t1, pd⟩ := NI.out
        refine Lib.hid ⟨s', B, tot, t0, by omega, rfl, k1.done, hB, iB, nr, fo, fun q h1 h2 h3 => ?_, by rw [EY.out]; rwa [List.take_length] at pd⟩
        obtain ⟨m, hm, e⟩ := List.getElem_of_mem ((ME.out q).2 ⟨h1, h2, h3⟩)
        exact dn m q hm (by rw [List.getElem?_eq_getElem hm, e])
      clear NI
      go_wp2
      go_ret
      exact RE.out
end
end Gc
end Go.Proofs.YthmhehehomieiaaGreat

/- A bit: one of the row, one of what is noted, or the next one of the half. -/
namespace Go.Proofs.YthmhehehomieiaaGreat
namespace Gc
open Go.RowKit

section
variable {A : Hp} {s : Co} {w : World} {b : Nat} {S : Nat → Prop}

/-- How much there is left, at most. -/
def left_ (s : Co) (A : Hp) : Nat := A.row.length + A.F.length + 2 * A.un.length - A.k + (s.rx.length + s.rm.count true)

/-- A part is gone through, one of the row, or the next one of the half: what a bit comes to, as a function of the core and its objects; how many words that were. -/
inductive BitD (s : Co) (A : Hp) : Co → Hp → Int → Prop
  | row {p : Int} {row : List Int} {o : Ob} {t : Co} {B : Hp} : A.row = p :: row → A.ob p = some o → FoD (s.rowed row) { A with row := row } p t B → BitD s A t B ((o.sz : Nat) : Int)
  | buf {x n : Int} {xs : List Int} {t : Co} {C : Hp} : A.row = [] → s.rx = x :: xs → PartD (startsP s.F0 s.cf.pz s.pgs x (x + 1)) (s.rem xs s.rm s.ry s.rn) { A with D := fun q => x ≤ q ∧ q < x + 1 } n t C →
      BitD s A t { C with X := fun q => C.X q ∧ ¬ (x ≤ q ∧ q < x + 1), D := fun _ => False } n
  | card {j : Nat} {n : Int} {t : Co} {C : Hp} : A.row = [] → s.rx = [] → s.rm[j]? = some true → (∀ i : Nat, i < j → s.rm[i]? = some false) →
      PartD (startsP s.F0 s.cf.pz s.pgs (s.F0 + j * s.cf.cd) (endI s.F0 s.W0 s.cf.cd j)) (s.rem [] (s.rm.set j false) s.ry s.rn) { A with D := fun q => s.F0 + j * s.cf.cd ≤ q ∧ q < endI s.F0 s.W0 s.cf.cd j } n t C →
      BitD s A t { C with X := fun q => C.X q ∧ ¬ (s.F0 + j * s.cf.cd ≤ q ∧ q < endI s.F0 s.W0 s.cf.cd j), D := fun _ => False } n
  | half {p : Int} {o : Ob} {t : Co} {C : Hp} : A.row = [] → s.rx = [] → (∀ i : Nat, s.rm[i]? ≠ some true) → A.F[A.k]? = some p → A.ob p = some o → FoD s A p t C → BitD s A (t.scanned (p + (o.sz : Nat))) { C with k := C.k + 1 } ((o.sz : Nat) : Int)

/-- How a bit ends. -/
def BitR (w : World) (b : Nat) (S : Nat → Prop) (s : Co) (A : Hp) (e : Ending) (w' : World) : Prop :=
  (A.row = [] ∧ (∀ p, ¬ A.X p) ∧ A.k = A.F.length ∧ (s.rx = [] ∧ s.rm.count true = 0) ∧ e = .returned (.tuple #[.int .i64 0, .bool false]) ∧ CoR w b S s w') ∨
  (∃ s' B n, 0 ≤ n ∧ n ≤ 300000 ∧ e = .returned (.tuple #[.int .i64 n, .bool true]) ∧ Bit w b S s A s' B w' ∧ left_ s' B < left_ s A ∧ BitD s A s' B n)

theorem left_row {s' : Co} {B : Hp} (f : B.row.length + B.F.length + 2 * B.un.length + 1 ≤ A.row.length + A.F.length + 2 * A.un.length) (hk : B.k = A.k) (r : s'.rx.length + s'.rm.count true ≤ s.rx.length + s.rm.count true) (kb : B.k ≤ B.F.length) : left_ s' B < left_ s A := by
  unfold left_; omega
theorem left_half {s' : Co} {B : Hp} (f : B.row.length + B.F.length + 2 * B.un.length ≤ A.row.length + A.F.length + 2 * A.un.length) (hk : B.k = A.k + 1) (r : s'.rx.length + s'.rm.count true ≤ s.rx.length + s.rm.count true) (kb : B.k ≤ B.F.length) : left_ s' B < left_ s A := by
  unfold left_; omega
theorem left_rem {s' : Co} {B : Hp} (f : B.row.length + B.F.length + 2 * B.un.length ≤ A.row.length + A.F.length + 2 * A.un.length) (hk : B.k = A.k) (r : s'.rx.length + s'.rm.count true < s.rx.length + s.rm.count true) (kb : B.k ≤ B.F.length) : left_ s' B < left_ s A := by
  unfold left_; omega

/-- A part that has been told is gone through, and is not told again. -/
theorem part_sim {s1 : Co} (c1 : Cr w b S s1) (h : Sim s A) (i : Inv 0 A) (hs : Scan s A) (hD : ∀ p, ¬ A.D p) {f t : Int} {xs : List Int} {ms : List Bool} (e1 : s1 = s.rem xs ms s.ry s.rn)
    (cov : ∀ p, p ∈ A.O → Cov s.F0 s.cf.cd s.rx s.rm p → (f ≤ p ∧ p < t) ∨ Cov s.F0 s.cf.cd xs ms p) :
    Calls Tryz.prog 133 #[ptr b, .int .i64 f, .int .i64 t] w fun e w' => ∃ s' B n, 0 ≤ n ∧ n ≤ 300000 ∧ e = .returned (.int .i64 n) ∧ Bit w b S s1 A s' B w' ∧ B.k = A.k ∧
      B.row.length + B.F.length + 2 * B.un.length ≤ A.row.length + A.F.length + 2 * A.un.length ∧
      ∃ C, PartD (startsP s.F0 s.cf.pz s.pgs f t) s1 { A with D := fun q => f ≤ q ∧ q < t } n s' C ∧ B = { C with X := fun q => C.X q ∧ ¬ (f ≤ q ∧ q < t), D := fun _ => False } := by
  subst e1
  have h1 : Sim (s.rem xs ms s.ry s.rn) { A with D := fun q => f ≤ q ∧ q < t } :=
    { h with
      laid := h.laid.side rfl rfl rfl rfl
      X := fun p hp => by
        rcases h.X p hp with z | z
        · exact absurd z (hD p)
        · exact cov p (i.xo p (.inl hp)) z }
  have i1 : Inv 0 { A with D := fun q => f ≤ q ∧ q < t } := { i with }
  have hs1 : Scan (s.rem xs ms s.ry s.rn) { A with D := fun q => f ≤ q ∧ q < t } := hs
  refine (noted_sim c1 h1 i1 f t).mono ?_
  rintro e w' ⟨s', B, n, n0, n1, he, cr, hB, iB, nr, fo, dn, pd⟩
  have eX : B.X = A.X := fo.X
  have eD : B.D = fun q => f ≤ q ∧ q < t := fo.D
  have i2 := iB.less (X := fun q => B.X q ∧ ¬ (f ≤ q ∧ q < t)) (fun p z => z.1) fun p o hp ho hx hn => by
    have hr : f ≤ p ∧ p < t := by
      by_cases z : f ≤ p ∧ p < t
      · exact z
      · exact absurd ⟨hx, z⟩ hn
    have hA : p ∈ A.O := i.xo p (.inl (by rw [← eX]; exact hx))
    obtain ⟨v, v1, v2, v3⟩ := dn p hA hr.1 hr.2
    rw [ho] at v1; cases v1
    exact ⟨v2, v3⟩
  have sc : Scan s' B := by
    obtain ⟨l, hl⟩ := fo.F
    unfold Scan
    rw [nr.scan, nr.cf, nr.yn, fo.k, hl, List.take_append_of_le_length i.kl]
    have : B.sum (A.F.take A.k) = A.sum (A.F.take A.k) := Hp.sum_same fun q hq => by
      obtain ⟨o, ho⟩ := (i.dom q).2 (.inl (List.mem_of_mem_take hq))
      obtain ⟨v, h1, h2⟩ := fo.sz q o ho
      rw [Hp.szf_of ho, Hp.szf_of h1, h2]
    rw [show ({ A with D := fun q => f ≤ q ∧ q < t } : Hp).F = A.F from rfl, show ({ A with D := fun q => f ≤ q ∧ q < t } : Hp).k = A.k from rfl, this]
    exact hs
  refine ⟨s', { B with X := fun q => B.X q ∧ ¬ (f ≤ q ∧ q < t), D := fun _ => False }, n, n0, n1, he, ?_, fo.k, fo.few, B, pd, rfl⟩
  exact
    { co := cr, inv := i2, scan := sc, cf := nr.cf, hs := nr.hs, E := fo.E, hsA := fo.hs, mv := nr.mv, ph := nr.ph, gx := nr.gx, mi := nr.mi, al := nr.al, gr := nr.gr, tr := .trans (nr.tr.pre rfl rfl rfl rfl rfl rfl rfl rfl) (.side rfl rfl rfl rfl rfl rfl rfl rfl)
      D := by funext q; exact propext ⟨fun z => z.elim, fun z => absurd z (hD q)⟩
      rem := by rw [nr.rx, nr.rm]; exact Nat.le_refl _
      rep := fun G g r => by
        obtain ⟨g', r'⟩ := fo.rep G g (r.side rfl rfl rfl)
        exact ⟨g', r'.side rfl rfl rfl⟩
      sim := { hB with
        laid := hB.laid.side rfl rfl rfl rfl
        X := fun p hp => by
          rcases hB.X p hp.1 with z | z
          · rw [eD] at z; exact absurd z hp.2
          · exact .inr z } }
end
end Gc
end Go.Proofs.YthmhehehomieiaaGreat

/- A bit of a minor cycle. -/
namespace Go.Proofs.YthmhehehomieiaaGreat
namespace Gc
open Go.RowKit

theorem least {Q : Nat → Prop} {j : Nat} (h : Q j) : ∃ k, Q k ∧ ∀ i, i < k → ¬ Q i := by
  induction j using Nat.strongRecOn with
  | ind j ih =>
    by_cases e : ∃ i, i < j ∧ Q i
    · obtain ⟨i, hi, q⟩ := e
      exact ih i hi q
    · exact ⟨j, h, fun i hi q => e ⟨i, hi, q⟩⟩

section
variable {A : Hp} {s : Co} {w : World} {b : Nat} {S : Nat → Prop}

theorem old_span (h : Sim s A) {p : Int} (hp : p ∈ A.O) : s.F0 ≤ p ∧ (∀ o, A.ob p = some o → p + o.sz ≤ s.F0 + s.W0) := by
  obtain ⟨c, hc, rfl⟩ := (h.laid.old p).1 hp
  have sp := used_span (F := 1 + 2 * s.cf.nu) h.laid.g0 h.laid.wf hc
  have hw0 : s.W0 = s.pgs.length * s.cf.pz := by show s.cf.ps * s.cf.pz = _; rw [h.pl]
  refine ⟨sp.1, fun o ho => ?_⟩
  have := h.laid.fit c hc o ho
  rw [hw0]
  show c.pos + _ ≤ 1 + 2 * s.cf.nu + _
  omega

/-- A card's places. -/
theorem card_span {F W C p : Int} {j : Nat} (c0 : 1 ≤ C) (p0 : F ≤ p) (p1 : p < F + W) (e : ((p - F) / C).toNat = j) : F + j * C ≤ p ∧ p < endI F W C j := by
  have d0 := Int.ediv_nonneg (show 0 ≤ p - F by omega) (show 0 ≤ C by omega)
  have ej : (p - F) / C = (j : Int) := by omega
  have h1 := Int.ediv_mul_le (p - F) (show C ≠ 0 by omega)
  have h2 := Int.lt_ediv_add_one_mul_self (p - F) (show 0 < C by omega)
  rw [ej] at h1 h2
  rw [Int.add_mul, Int.one_mul] at h2
  unfold endI
  split <;> omega

/-- Nothing is left. -/
theorem bit_none (h : Sim s A) (hD : ∀ p, ¬ A.D p) (hx : s.rx = []) (hm : ∀ i : Nat, s.rm[i]? ≠ some true) : ∀ p, ¬ A.X p := fun p hp => by
  rcases h.X p hp with z | z | z
  · exact hD p z
  · rw [hx] at z; cases z
  · exact hm _ z

theorem cov_card (hC : Cr w b S s) (h : Sim s A) (i : Inv 0 A) {j : Nat} (hx : s.rx = []) : ∀ p, p ∈ A.O → Cov s.F0 s.cf.cd s.rx s.rm p → (s.F0 + j * s.cf.cd ≤ p ∧ p < endI s.F0 s.W0 s.cf.cd j) ∨ Cov s.F0 s.cf.cd [] (s.rm.set j false) p := fun p hp c => by
  rcases c with z | z
  · rw [hx] at z; cases z
  · obtain ⟨o, ho⟩ := (i.dom p).2 (.inr (.inr hp))
    have sp := old_span h hp
    have := sp.2 o ho
    have := sz_two o
    by_cases e : ((p - s.F0) / s.cf.cd).toNat = j
    · exact .inl (card_span hC.marks.2 sp.1 (by omega) e)
    · exact .inr (.inr (by rw [List.getElem?_set_ne (Ne.symm e)]; exact z))
theorem cov_buf {x : Int} {xs : List Int} (hx : s.rx = x :: xs) : ∀ p, p ∈ A.O → Cov s.F0 s.cf.cd s.rx s.rm p → (x ≤ p ∧ p < x + 1) ∨ Cov s.F0 s.cf.cd xs s.rm p := fun p _ c => by
  rcases c with z | z
  · rw [hx] at z
    rcases List.mem_cons.1 z with rfl | z
    · exact .inl (by omega)
    · exact .inr (.inl z)
  · exact .inr (.inr z)

theorem row_len (hC : Cr w b S s) : ∃ AA c, w.cell? ⟨b, 25, none⟩ = some (.slice AA s.row.length c) := by
  obtain ⟨AA, c, _, _, _, h, _⟩ := hC.row
  exact ⟨AA, c, h⟩

set_option maxHeartbeats 4000000 in
set_option maxRecDepth 100000 in
theorem bit_sim (hC : Cr w b S s) (h : Sim s A) (i : Inv 0 A) (hs : Scan s A) (hD : ∀ p, ¬ A.D p) : Calls Tryz.prog 97 #[ptr b] w (BitR w b S s A) := by
  obtain ⟨AA, c, c25⟩ := row_len hC
  cases hr : A.row with
  | cons p row =>
    have er : s.row.length = row.length + 1 := by rw [← h.row, hr]; rfl
    have H := Lib.hid (row_sim hC h i hs hr)
    have kl := i.kl
    have fin : Hid (∀ n w', RowR w b S s A (.returned (.int .i64 n)) w' → BitR w b S s A (.returned (.tuple #[.int .i64 n, .bool true])) w') := Lib.hid (by
      rintro n w' ⟨s', B, m, n0, n1, he, bt, eX, few, hk, p', row', o, e1, ho, en, fd⟩
      injection he with he
      injection he with _ he
      subst he
      exact .inr ⟨s', B, n, n0, by omega, rfl, bt, left_row few hk bt.rem bt.inv.kl, by rw [en]; exact .row e1 ho fd⟩)
    rw [er] at c25
    have p0 : (0 : Int) < ((row.length + 1 : Nat) : Int) := by omega
    clear hC h i hs hD hr er kl
    go_enter Tryz.func97, Tryz.ntmps97
    go_wp2_with fail
    refine H.out.mono ?_
    rintro e w1 re
    have re' := re
    obtain ⟨s', B, n, _, _, rfl, _⟩ := re'
    have RE := Lib.hid (fin.out n w1 re)
    clear re H fin c25
    go_wp2
    go_ret2
    exact RE.out
  | nil =>
    have er : s.row.length = 0 := by rw [← h.row, hr]; rfl
    rw [er] at c25
    have kl := i.kl
    cases hx : s.rx with
    | cons x xs =>
      obtain ⟨r, c16, H⟩ := rnext_buf hC hx
      have H := Lib.hid H
      have PS : Hid (∀ w1, CoR w b S (s.rem xs s.rm s.ry s.rn) w1 → Calls Tryz.prog 133 #[ptr b, .int .i64 x, .int .i64 (x + 1)] w1 fun e w' => ∃ n, e = .returned (.int .i64 n) ∧ BitR w b S s A (.returned (.tuple #[.int .i64 n, .bool true])) w') := Lib.hid (by
        intro w1 cr
        obtain ⟨S1, c1, m1⟩ := cr
        refine (part_sim c1 h i hs hD rfl (cov_buf hx)).mono ?_
        rintro e w' ⟨s', B, n, n0, n1, he, bt, hk, few, C, pd, eB⟩
        obtain ⟨S2, c2, m2⟩ := bt.co
        have rm := bt.rem
        refine ⟨n, he, .inr ⟨s', B, n, n0, n1, rfl, { bt with co := ⟨S2, c2, m1.trans m2⟩, tr := bt.tr.pre rfl rfl rfl rfl rfl rfl rfl rfl, rem := ?_ }, left_rem few hk ?_ bt.inv.kl, by rw [eB]; exact .buf hr hx pd⟩⟩
        · rw [hx]; show _ ≤ (xs.length + 1) + _; have : s'.rx.length + s'.rm.count true ≤ xs.length + s.rm.count true := rm; omega
        · rw [hx]; show _ < (xs.length + 1) + _; have : s'.rx.length + s'.rm.count true ≤ xs.length + s.rm.count true := rm; omega)
      clear hC h i hs hD hr er kl hx
      go_enter Tryz.func97, Tryz.ntmps97
      go_wp2_with fail
      refine H.out.mono ?_
      rintro e w1 ⟨rfl, cr⟩
      have P1 := Lib.hid (PS.out w1 cr)
      clear cr H PS c16 c25
      go_wp2_with fail
      refine P1.out.mono ?_
      rintro e w2 ⟨n, rfl, re⟩
      have RE := Lib.hid re
      clear re P1
      go_wp2
      go_ret2
      exact RE.out
    | nil =>
      by_cases hm : ∃ j : Nat, s.rm[j]? = some true
      · obtain ⟨j0, hj0⟩ := hm
        obtain ⟨j, hj, hmin⟩ := least (Q := fun j => s.rm[j]? = some true) hj0
        have jl := (List.getElem?_eq_some_iff.1 hj).1
        have hmin' : ∀ i : Nat, i < j → s.rm[i]? = some false := fun i hi => by
          have := hmin i hi
          rw [List.getElem?_eq_getElem (by omega)] at this ⊢
          cases e : s.rm[i] with
          | false => rfl
          | true => rw [e] at this; exact absurd rfl this
        obtain ⟨r, c16, H⟩ := rnext_card hC j hx hj hmin'
        have H := Lib.hid H
        have cnt : (s.rm.set j false).count true + 1 = s.rm.count true := by
          have hge : s.rm[j] = true := (List.getElem?_eq_some_iff.1 hj).2
          have pos : 0 < s.rm.count true := List.count_pos_iff.2 (List.mem_of_getElem? hj)
          rw [List.count_set jl, hge]
          simp
          omega
        have PS : Hid (∀ w1, CoR w b S (s.rem [] (s.rm.set j false) s.ry s.rn) w1 → Calls Tryz.prog 133 #[ptr b, .int .i64 (s.F0 + j * s.cf.cd), .int .i64 (endI s.F0 s.W0 s.cf.cd j)] w1 fun e w' => ∃ n, e = .returned (.int .i64 n) ∧ BitR w b S s A (.returned (.tuple #[.int .i64 n, .bool true])) w') := Lib.hid (by
          intro w1 cr
          obtain ⟨S1, c1, m1⟩ := cr
          refine (part_sim c1 h i hs hD rfl (cov_card hC h i hx)).mono ?_
          rintro e w' ⟨s', B, n, n0, n1, he, bt, hk, few, C, pd, eB⟩
          obtain ⟨S2, c2, m2⟩ := bt.co
          have rm := bt.rem
          refine ⟨n, he, .inr ⟨s', B, n, n0, n1, rfl, { bt with co := ⟨S2, c2, m1.trans m2⟩, tr := bt.tr.pre rfl rfl rfl rfl rfl rfl rfl rfl, rem := ?_ }, left_rem few hk ?_ bt.inv.kl, by rw [eB]; exact .card hr hx hj hmin' pd⟩⟩
          · rw [hx]; have : s'.rx.length + s'.rm.count true ≤ 0 + (s.rm.set j false).count true := rm; simp; omega
          · rw [hx]; have : s'.rx.length + s'.rm.count true ≤ 0 + (s.rm.set j false).count true := rm; simp; omega)
        generalize s.F0 + j * s.cf.cd = fr at *
        generalize endI s.F0 s.W0 s.cf.cd j = te at *
        clear hC h i hs hD hr er kl hx hj hj0 hmin hmin' jl cnt
        go_enter Tryz.func97, Tryz.ntmps97
        go_wp2_with fail
        refine H.out.mono ?_
        rintro e w1 ⟨rfl, cr⟩
        have P1 := Lib.hid (PS.out w1 cr)
        clear cr H PS c16 c25
        go_wp2_with fail
        refine P1.out.mono ?_
        rintro e w2 ⟨n, rfl, re⟩
        have RE := Lib.hid re
        clear re P1
        go_wp2
        go_ret2
        exact RE.out
      · have hm' : ∀ i : Nat, s.rm[i]? ≠ some true := fun i e => hm ⟨i, e⟩
        obtain ⟨r, c16, H⟩ := rnext_none hC hx hm'
        have H := Lib.hid H
        have nX := bit_none h hD hx hm'
        have HS : Hid (∀ w1, Below w.heap.size w w1 → Calls Tryz.prog 134 #[ptr b] w1 fun e w' => ∃ n y, e = .returned (.tuple #[.int .i64 n, .bool y]) ∧ BitR w b S s A (.returned (.tuple #[.int .i64 n, .bool y])) w') := Lib.hid (by
          intro w1 f1
          refine (half_sim (hC.keep f1) h i hs).mono ?_
          rintro e w' (⟨e1, rfl, cr⟩ | ⟨s', B, n, lt, n0, n1, rfl, bt, eX, few, hk, p, o, t, C, hp, ho, en, fd, es, eB⟩)
          · exact ⟨0, false, rfl, .inl ⟨hr, nX, e1, ⟨hx, List.count_eq_zero.2 fun z => by obtain ⟨k, hk, e⟩ := List.getElem_of_mem z; exact hm' k (by rw [List.getElem?_eq_getElem hk, e])⟩, rfl, CoR.pre f1 cr⟩⟩
          · exact ⟨n, true, rfl, .inr ⟨s', B, n, by omega, by omega, rfl, { bt with co := CoR.pre f1 bt.co }, left_half few hk bt.rem bt.inv.kl, by rw [en, es, eB]; exact .half hr hx hm' hp ho fd⟩⟩)
        clear hC h i hs hD er kl hx hm hm' nX
        go_enter Tryz.func97, Tryz.ntmps97
        go_wp2_with fail
        refine H.out.mono ?_
        rintro e w1 ⟨rfl, b1⟩
        have P1 := Lib.hid (HS.out w1 b1)
        clear b1 H HS c16 c25
        go_wp2_with fail
        refine P1.out.mono ?_
        rintro e w2 ⟨n, y, rfl, re⟩
        have RE := Lib.hid re
        clear re P1
        go_wp2
        go_ret2
        exact RE.out

end
end Gc
end Go.Proofs.YthmhehehomieiaaGreat

/- The end of a minor cycle, while no major one marks. -/
namespace Go.Proofs.YthmhehehomieiaaGreat
namespace Gc
open Go.RowKit

section
variable {A : Hp} {s : Co} {w : World} {b : Nat} {S : Nat → Prop}

theorem gall_co (hC : Cr w b S s) (hx : s.gx = []) :
    ∃ g : Nat, w.cell? ⟨b, 17, none⟩ = some (grP g) ∧ Calls Tryz.prog 135 #[grP g] w fun e w' => ∃ A' c', e = .returned (.slice A' 0 c') ∧ Below w.heap.size w w' := by
  obtain ⟨P, own, h0, rfl, rfl⟩ := hC
  obtain ⟨A0, c0, hg, og, oA⟩ := h0.prt 5
  rw [hx] at hg
  refine ⟨P.g, h0.cell 17, (grAll_any (h := hg)).mono ?_⟩
  rintro e w' ⟨A', c', he, _, bl, _⟩
  exact ⟨A', c', he, bl⟩

/-- Was an object lost behind the stack's emptying? -/
def glE (s : Co) : Bool := s.gl || decide (s.cf.st < ((0 : Nat) : Int))

theorem gput_co (hC : Cr w b S s) :
    ∃ g : Nat, w.cell? ⟨b, 17, none⟩ = some (grP g) ∧ Calls Tryz.prog 136 #[grP g, .slice none 0 0] w fun e w' => e = .returned (.tuple #[]) ∧ ∃ l, CoR w b S (s.grey l []) w' ∧ l = glE s := by
  obtain ⟨P, own, h0, rfl, rfl⟩ := hC
  obtain ⟨A0, c0, hg, og, oA⟩ := h0.prt 5
  refine ⟨P.g, h0.cell 17, (grPut_any _ _ _ _ _ _ _ [] none 0 0 w hg ⟨rfl, fun i x hx => by simp at hx⟩ (Nat.zero_le _) (fun h => absurd h (Nat.lt_irrefl 0))).mono ?_⟩
  rintro e w' ⟨he, A', n', c', hg', gt⟩
  have en : n' = 0 := by have := hg'.row.len; simpa using this.symm
  subst en
  rw [List.take_nil] at hg'
  refine ⟨he, s.gl || decide (s.cf.st < ((0 : Nat) : Int)), ?_, rfl⟩
  refine h0.turn 5 (s' := s.grey (s.gl || decide (s.cf.st < ((0 : Nat) : Int))) []) (P' := P) (O' := fun k => k = P.g ∨ blkOf A' = some k) (gt.frm.mono ?_) ⟨A', c', hg', .inl rfl, fun k hk => .inr hk⟩ ?_ ?_ ?_ rfl rfl rfl
  · rintro k _ (rfl | hk)
    · exact og
    · exact oA k hk
  · rintro k (rfl | hk)
    · exact .inl og
    · exact (gt.at_ k hk).imp (oA k) id
  · rintro k (rfl | hk)
    · exact hg'.lt
    · rcases hg'.row.lies with ⟨rfl, _⟩ | ⟨g, off, cs, rfl, hB, _⟩
      · cases hk
      · cases hk; exact hB.lt
  · intro i hi v O hp
    rcases i with _ | _ | _ | _ | _ | _ | _ | _ | _ | i <;> first | exact absurd rfl hi | exact hp

/-- What a core holds when a cycle has ended. -/
def Co.ended (s : Co) (l : Bool) : Co := (((((s.grey l []).halves s.yn s.yu 0).moving false).copied 0).minors (wrap64 (s.d.mi + 1)))

/-- How a cycle ends. -/
def EndR (w : World) (b : Nat) (S : Nat → Prop) (s : Co) (A : Hp) (e : Ending) (w' : World) : Prop :=
  ∃ l, e = .returned (.tuple #[]) ∧ CoR w b S (Co.ended s l) w' ∧ Sim (Co.ended s l) A.stop ∧ Inv 0 A.stop ∧ (∀ G f, Rep A G f → Rep A.stop G f) ∧ l = glE s

set_option maxHeartbeats 4000000 in
set_option maxRecDepth 100000 in
theorem end_sim (hC : Cr w b S s) (h : Sim s A) (i : Inv 0 A) (hx : s.gx = []) (hr : A.row = []) (hX : ∀ p, ¬ A.X p) (hk : A.k = A.F.length) (hH : ∀ p ∈ A.hs, p ∉ A.E) :
    Calls Tryz.prog 98 #[ptr b] w (EndR w b S s A) := by
  obtain ⟨i2, far⟩ := i.stop hk hX hr hH
  have fin : Hid (∀ l w', l = glE s → CoR w b S (Co.ended s l) w' → EndR w b S s A (.returned (.tuple #[])) w') := Lib.hid (fun l w' el cr => ⟨l, rfl, cr,
    { laid := h.laid.stop i
      hs := h.hs
      row := h.row
      cop := rfl
      par := h.par
      few := by have := h.laid.n0; show 2 * ((A.row.length : Int) + (A.stop.un.length : Int)) ≤ s.cf.nu; rw [hr, show A.stop.un = [] from rfl]; exact this
      pl := h.pl
      beg := fun p hp => h.beg p (hp.imp id fun e => nomatch e)
      X := fun p hp => absurd hp (hX p)
      Y := h.Y }, i2, fun G f r => r.stop hH far, el⟩)
  obtain ⟨g, c17, H1⟩ := gall_co hC hx
  have H1 := Lib.hid H1
  have K0 := Lib.hid hC
  clear hC h i i2 far hx hr hX hk hH
  go_enter Tryz.func98, Tryz.ntmps98
  go_wp2_with fail
  refine H1.out.mono ?_
  rintro e w1 ⟨A', c', rfl, b1⟩
  have K1 := Lib.hid (K0.out.keep b1)
  have B1 := Lib.hid b1
  clear b1 H1 c17 K0
  go_wp2_with fail
  go_loopw [2, 4, 5, 12] (fun s2 _ _ s12 wr => s2 = .slice none 0 0 ∧ s12 = .int .i64 0 ∧ wr = w1) (fun _ _ _ _ _ => 0)
  case atStart => exact ⟨rfl, rfl, rfl⟩
  case round =>
    obtain ⟨rfl, rfl, rfl⟩ := hrel
    obtain ⟨g2, c17, H2⟩ := gput_co K1.out
    have H2 := Lib.hid H2
    go_wp2_with fail
    refine H2.out.mono ?_
    rintro e w2 ⟨rfl, l, r2, el⟩
    obtain ⟨S2, c2, m2⟩ := r2
    obtain ⟨y0, c14, H3⟩ := bdrop_co c2
    have H3 := Lib.hid H3
    have M2 := Lib.hid (Mv.pre B1.out m2)
    clear c2 m2 H2 c17 K1 B1
    go_wp2_with fail
    refine H3.out.mono ?_
    rintro e w3 ⟨⟨r, rfl⟩, r3⟩
    obtain ⟨S3, c3, m3⟩ := r3
    obtain ⟨S4, c4, m4⟩ := c3.setMv false
    obtain ⟨S5, c5, m5⟩ := c4.setCop 0
    obtain ⟨S6, c6, m6⟩ := c5.setMinors (wrap64 (s.d.mi + 1))
    have RE := Lib.hid (fin.out l _ el ⟨S6, c6, (((M2.out.trans m3).trans m4).trans m5).trans m6⟩)
    obtain ⟨P3, own3, h3, _, hc3, hf3, hl3⟩ := c3.cell
    have d21 : w3.cell? ⟨b, 21, none⟩ = some (.bool s.mv) := hc3 21
    have d23 : w3.cell? ⟨b, 23, none⟩ = some (.int .i64 s.cop) := hc3 23
    have d29 : w3.cell? ⟨b, 29, none⟩ = some (.int .i64 s.d.mi) := hc3 29
    clear c3 m3 c4 m4 c5 m5 c6 m6 h3 hc3 fin M2 H3 c14
    go_wp2
    first | go_end0 | refine bodyPost_ret (results_none rfl _ _ _) rfl ?_
    exact RE.out
end
end Gc
end Go.Proofs.YthmhehehomieiaaGreat

/- A bit and a step hang on the core and its objects alone. -/
namespace Go.Proofs.YthmhehehomieiaaGreat
namespace Gc
section
variable {s t t' : Co} {A B B' : Hp} {n n' : Int} {y y' : Bool}

theorem BitD.re (m : BitD s A t B n) (P : Pts) : BitD (s.re P) A (t.re P) B n := by
  cases m with
  | row e ho f => exact .row (s := s.re P) e ho (f.re P)
  | buf e hx pd => exact .buf (s := s.re P) e hx (pd.re P)
  | card e hx hj hm pd => exact .card (s := s.re P) e hx hj hm (pd.re P)
  | half e hx hm hp ho f => exact .half (s := s.re P) e hx hm hp ho (f.re P)

theorem first_one {ms : List Bool} {i j : Nat} (hi : ms[i]? = some true) (hi' : ∀ k : Nat, k < i → ms[k]? = some false) (hj : ms[j]? = some true) (hj' : ∀ k : Nat, k < j → ms[k]? = some false) : i = j := by
  rcases Nat.lt_trichotomy i j with h | h | h
  · rw [hj' i h] at hi; cases hi
  · exact h
  · rw [hi' j h] at hj; cases hj

theorem BitD.one (m : BitD s A t B n) (k : BitD s A t' B' n') : t' = t ∧ B' = B ∧ n' = n := by
  cases m with
  | row e ho f =>
    cases k with
    | row e' ho' f' =>
      rw [e] at e'; cases e'
      rw [ho] at ho'; cases ho'
      obtain ⟨rfl, rfl⟩ := f.one f'
      exact ⟨rfl, rfl, rfl⟩
    | buf e' _ _ => rw [e] at e'; cases e'
    | card e' _ _ _ _ => rw [e] at e'; cases e'
    | half e' _ _ _ _ _ => rw [e] at e'; cases e'
  | buf e hx pd =>
    cases k with
    | row e' _ _ => rw [e] at e'; cases e'
    | buf _ hx' pd' =>
      rw [hx] at hx'; cases hx'
      obtain ⟨rfl, rfl, rfl⟩ := pd.det pd'
      exact ⟨rfl, rfl, rfl⟩
    | card _ hx' _ _ _ => rw [hx] at hx'; cases hx'
    | half _ hx' _ _ _ _ => rw [hx] at hx'; cases hx'
  | card e hx hj hm pd =>
    cases k with
    | row e' _ _ => rw [e] at e'; cases e'
    | buf _ hx' _ => rw [hx] at hx'; cases hx'
    | card _ _ hj' hm' pd' =>
      obtain rfl := first_one hj hm hj' hm'
      obtain ⟨rfl, rfl, rfl⟩ := pd.det pd'
      exact ⟨rfl, rfl, rfl⟩
    | half _ _ hm' _ _ _ => exact absurd hj (hm' _)
  | half e hx hm hp ho f =>
    cases k with
    | row e' _ _ => rw [e] at e'; cases e'
    | buf _ hx' _ => rw [hx] at hx'; cases hx'
    | card _ _ hj' _ _ => exact absurd hj' (hm _)
    | half _ _ _ hp' ho' f' =>
      rw [hp] at hp'; cases hp'
      rw [ho] at ho'; cases ho'
      obtain ⟨rfl, rfl⟩ := f.one f'
      exact ⟨rfl, rfl, rfl⟩

/-- Nothing is left to look at. -/
structure NoBit (s : Co) (A : Hp) : Prop where
  row : A.row = []
  half : A.k = A.F.length
  rx : s.rx = []
  rm : s.rm.count true = 0
theorem NoBit.not (h : NoBit s A) : ¬ BitD s A t B n := fun m => by
  cases m with
  | row e _ _ => rw [h.row] at e; cases e
  | buf _ hx _ => rw [h.rx] at hx; cases hx
  | card _ _ hj _ _ => exact List.count_eq_zero.1 h.rm (List.mem_of_getElem? hj)
  | half _ _ _ hp _ _ => rw [h.half, List.getElem?_eq_none (Nat.le_refl _)] at hp; cases hp

/-- A step. -/
inductive StepD (s : Co) (A : Hp) : Co → Hp → Int → Bool → Prop
  | still : s.mv = false → StepD s A s A 0 false
  | bit {t : Co} {B : Hp} {n : Int} : s.mv = true → BitD s A t B n → StepD s A t B (n + 1) true
  | end_ : s.mv = true → NoBit s A → StepD s A (Co.ended s (glE s)) A.stop 1 false

theorem StepD.re (m : StepD s A t B n y) (P : Pts) : StepD (s.re P) A (t.re P) B n y := by
  cases m with
  | still h => exact .still h
  | bit h m => exact .bit h (m.re P)
  | end_ h k => exact .end_ (s := s.re P) h ⟨k.row, k.half, k.rx, k.rm⟩
theorem StepD.one (m : StepD s A t B n y) (k : StepD s A t' B' n' y') : t' = t ∧ B' = B ∧ n' = n ∧ y' = y := by
  cases m with
  | still h =>
    cases k with
    | still _ => exact ⟨rfl, rfl, rfl, rfl⟩
    | bit h' _ => rw [h] at h'; cases h'
    | end_ h' _ => rw [h] at h'; cases h'
  | bit h m =>
    cases k with
    | still h' => rw [h] at h'; cases h'
    | bit _ m' =>
      obtain ⟨rfl, rfl, rfl⟩ := m.one m'
      exact ⟨rfl, rfl, rfl, rfl⟩
    | end_ _ k => exact absurd m k.not
  | end_ h k0 =>
    cases k with
    | still h' => rw [h] at h'; cases h'
    | bit _ m => exact absurd m k0.not
    | end_ _ _ => exact ⟨rfl, rfl, rfl, rfl⟩
end
end Gc
end Go.Proofs.YthmhehehomieiaaGreat

/- A step of a minor cycle. -/
namespace Go.Proofs.YthmhehehomieiaaGreat
namespace Gc
open Go.RowKit

/-- What holds between calls, while no major cycle goes on. -/
structure Cyc (s : Co) (A : Hp) : Prop where
  sim : Sim s A
  inv : Inv 0 A
  gx : s.gx = []
  ph : s.ph = 0
  D : ∀ p, ¬ A.D p
  hnd : ∀ p ∈ A.hs, p ∉ A.E
  scan : s.mv = true → Scan s A
  idle : s.mv = false → A.E = [] ∧ (∀ p, ¬ A.X p) ∧ A.row = [] ∧ s.rx = [] ∧ s.rm.count true = 0

section
variable {A : Hp} {s : Co} {w : World} {b : Nat} {S : Nat → Prop}

/-- What a step comes to. -/
structure StepQ (s : Co) (A : Hp) (s' : Co) (B : Hp) (n : Int) (y : Bool) : Prop where
  cyc : Cyc s' B
  rep : ∀ G f, Rep A G f → ∃ f', Rep B G f'
  cf : s'.cf = s.cf
  hs : s'.hs = s.hs
  hsA : B.hs = A.hs
  al : (s'.d.al, s'.d.wd) = (s.d.al, s.d.wd)
  tot : s'.tot ≤ s.tot
  mv : s'.mv = y
  no : s.mv = false → n = 0 ∧ s' = s ∧ B = A
  yes : s.mv = true → 1 ≤ n ∧ n ≤ 300001 ∧ (y = true → left_ s' B < left_ s A ∧ s'.d.mi = s.d.mi ∧ Prims s A s' B) ∧ (y = false → s'.d.mi = wrap64 (s.d.mi + 1) ∧ (∃ l, s' = Co.ended s l) ∧ B = A.stop ∧ ∀ G f, Rep A G f → Rep A.stop G f)
  det : StepD s A s' B n y

/-- How a step ends. -/
def StepR (w : World) (b : Nat) (S : Nat → Prop) (s : Co) (A : Hp) (e : Ending) (w' : World) : Prop :=
  ∃ s' B n y, e = .returned (.tuple #[.int .i64 n, .bool y]) ∧ CoR w b S s' w' ∧ StepQ s A s' B n y

set_option maxHeartbeats 4000000 in
set_option maxRecDepth 100000 in
theorem step_sim (hC : Cr w b S s) (c : Cyc s A) : Calls Tryz.prog 50 #[ptr b] w (StepR w b S s A) := by
  have c21 : w.cell? ⟨b, 21, none⟩ = some (.bool s.mv) := by obtain ⟨_, _, _, _, hc, _⟩ := hC.cell; exact hc 21
  cases hm : s.mv with
  | false =>
    rw [hm] at c21
    have RE : Hid (StepR w b S s A (.returned (.tuple #[.int .i64 0, .bool false])) w) := Lib.hid ⟨s, A, 0, false, rfl, hC.same, c, fun G f r => ⟨f, r⟩, rfl, rfl, rfl, rfl, Int.le_refl _, hm, fun _ => ⟨rfl, rfl, rfl⟩, fun e => by (rw [hm] at e; cases e), .still hm⟩
    clear hC c hm
    go_enter Tryz.func50, Tryz.ntmps50
    go_wp2
    go_ret2
    exact RE.out
  | true =>
    rw [hm] at c21
    have H := Lib.hid (bit_sim hC c.sim c.inv (c.scan hm) c.D)
    have FS : Hid (∀ n w', 0 ≤ n → BitR w b S s A (.returned (.tuple #[.int .i64 n, .bool true])) w' → StepR w b S s A (.returned (.tuple #[.int .i64 (n + 1), .bool true])) w' ∧ n ≤ 300000) := Lib.hid (by
      rintro n w' n0 (⟨_, _, _, _, he, _⟩ | ⟨s', B, m, m0, m1, he, bt, lf, bd⟩)
      · injection he with he; injection he with he; simp at he
      · injection he with he; injection he with he
        have : m = n := by simpa using he.symm
        subst this
        refine ⟨⟨s', B, m + 1, true, rfl, bt.co, ⟨bt.sim, bt.inv, bt.gx.trans c.gx, bt.ph.trans c.ph, fun p => by rw [bt.D]; exact c.D p, fun p hp => by rw [bt.E]; exact c.hnd p (bt.hsA ▸ hp), fun _ => bt.scan, fun e => by (rw [bt.mv, hm] at e; cases e)⟩, bt.rep, bt.cf, bt.hs, bt.hsA, bt.al, bt.gr, bt.mv.trans hm, fun e => by (rw [hm] at e; cases e), fun _ => ⟨by omega, by omega, fun _ => ⟨lf, bt.mi, bt.tr⟩, fun e => by cases e⟩, .bit hm bd⟩, m1⟩)
    have FE : Hid (∀ w1, BitR w b S s A (.returned (.tuple #[.int .i64 0, .bool false])) w1 → Calls Tryz.prog 98 #[ptr b] w1 fun e w' => e = .returned (.tuple #[]) ∧ StepR w b S s A (.returned (.tuple #[.int .i64 1, .bool false])) w') := Lib.hid (by
      rintro w1 (⟨hr, hX, hk, hrem, _, cr⟩ | ⟨s', B, m, m0, m1, he, _⟩)
      · obtain ⟨S1, c1, m1⟩ := cr
        refine (end_sim c1 c.sim c.inv c.gx hr hX hk c.hnd).mono ?_
        rintro e w' ⟨l, he, cr2, h2, i2, rp, rfl⟩
        obtain ⟨S2, c2, m2⟩ := cr2
        refine ⟨he, Co.ended s (glE s), A.stop, 1, false, rfl, ⟨S2, c2, m1.trans m2⟩, ⟨h2, i2, rfl, c.ph, c.D, fun p _ e => (by cases e), fun e => (by cases e), fun _ => ⟨rfl, hX, hr, hrem⟩⟩, fun G f r => ⟨f, rp G f r⟩, rfl, rfl, rfl, rfl, (by have := c.sim.cop; show s.yu + 0 - 0 ≤ s.yu + s.yv - s.cop; omega), rfl, fun e => by (rw [hm] at e; cases e), fun _ => ⟨by omega, by omega, fun e => (by cases e), fun _ => ⟨rfl, ⟨_, rfl⟩, rfl, rp⟩⟩, .end_ hm ⟨hr, hk, hrem.1, hrem.2⟩⟩
      · injection he with he; injection he with he; simp at he)
    have BK : Hid (∀ e w', BitR w b S s A e w' → ∃ n y, e = .returned (.tuple #[.int .i64 n, .bool y]) ∧ 0 ≤ n ∧ n ≤ 300000 ∧ (y = false → n = 0)) := Lib.hid (by
      rintro e w' (⟨_, _, _, _, rfl, _⟩ | ⟨s', B, m, m0, m1, rfl, _⟩)
      · exact ⟨0, false, rfl, by omega, by omega, fun _ => rfl⟩
      · exact ⟨m, true, rfl, m0, m1, fun e => by cases e⟩)
    clear hC c hm
    go_enter Tryz.func50, Tryz.ntmps50
    go_wp2_with fail
    refine H.out.mono ?_
    rintro e w1 re
    obtain ⟨n, y, rfl, n0, n1, hy⟩ := BK.out e w1 re
    cases y
    · obtain rfl := hy rfl
      have HE := Lib.hid (FE.out w1 re)
      clear re hy FS FE BK H c21
      go_wp2_with fail
      refine HE.out.mono ?_
      rintro e w2 ⟨rfl, r2⟩
      have RE := Lib.hid r2
      clear r2 HE
      go_wp2
      go_ret2
      exact RE.out
    · have RE := Lib.hid (FS.out n w1 n0 re).1
      clear re hy FS FE BK H c21
      go_wp2
      go_ret2
      exact RE.out
end
end Gc
end Go.Proofs.YthmhehehomieiaaGreat

/- A minor cycle begins: what a core and its objects are then. -/
namespace Go.Proofs.YthmhehehomieiaaGreat
namespace Gc
open Go.RowKit

section
variable {A : Hp} {s : Co} {w : World} {b : Nat} {S : Nat → Prop}

theorem few_sum : ∀ L : List Int, (∀ q ∈ L, ∃ o, A.ob q = some o) → 2 * L.length ≤ A.sum L
  | [], _ => Nat.le_refl _
  | a :: L, h => by
    obtain ⟨o, ho⟩ := h a (by simp)
    have := few_sum L fun q hq => h q (by simp [hq])
    have := sz_two o
    rw [Hp.sum_cons, Hp.szf_of ho, List.length_cons]
    omega

/-- A core whose halves have been flipped. -/
def Co.begun (s : Co) : Co := (((((s.halves (!s.yn) 0 s.yu).rem s.ry s.rn [] (List.replicate (nmI s.W0 s.cf.cd) false)).moving true).rowed []).scanned (hAt s.cf.nu 1 (!s.yn)))

theorem begun_sim (c : Cyc s A) (hm : s.mv = false) : Sim (Co.begun s) A.start ∧ Inv 0 A.start ∧ Scan (Co.begun s) A.start ∧ ∀ G f, Rep A G f → Rep A.start G f := by
  obtain ⟨hE, hX, hR, hx, hr⟩ := c.idle hm
  have h := c.sim
  obtain ⟨ld, rs⟩ := h.laid.start c.inv
  have hv : s.yv = 0 := by have := h.laid.he.use; rw [hE] at this; exact this
  have r0 : A.rest = 0 := by unfold Hp.rest Hp.un; rw [hE]; rfl
  have hc : s.cop = 0 := by have := h.cop; rw [r0, hv] at this; omega
  have hu := h.laid.used
  have un : 2 * (A.start.un.length : Int) ≤ s.cf.nu := by
    have h1 : A.start.un.length ≤ A.F.length := List.length_filter_le _ _
    have h2 := few_sum (A := A) A.F fun q hq => (c.inv.dom q).2 (.inl hq)
    have h3 := h.laid.hf.use
    omega
  refine ⟨?_, c.inv.start hE hX hR, ?_, fun G f r => r.start c.inv hE⟩
  · exact
      { laid := ld
        hs := h.hs
        row := rfl
        cop := by show s.cop + _ = s.yu; rw [hc]; omega
        par := h.par
        few := by show 2 * (((0 : Nat) : Int) + (A.start.un.length : Int)) ≤ s.cf.nu; omega
        pl := h.pl
        beg := fun p hp => h.beg p (hp.elim (fun e => nomatch e) .inl)
        X := fun p hp => .inr (h.Y p hp)
        Y := fun p hp => hp.elim }
  · show hAt s.cf.nu 1 (!s.yn) = hAt s.cf.nu 1 (!s.yn) + ((A.start.sum (A.start.F.take 0) : Nat) : Int)
    rw [List.take_zero, Hp.sum_nil]; simp

/-- The table's calls. -/
theorem tall_co (hC : Cr w b S s) :
    w.cell? ⟨b, 18, none⟩ = some (htP s.pt.t) ∧ Calls Tryz.prog 21 #[htP s.pt.t] w fun e w' => ∃ A' c', e = .returned (.slice A' s.hs.length c') ∧ Qu w' A' s.hs.length c' s.hs ∧ Below w.heap.size w w' ∧ ∀ k, blkOf A' = some k → w.heap.size ≤ k := by
  obtain ⟨P, own, h0, rfl, rfl⟩ := hC
  have e : s.pt.t = P.t := by rw [h0.pts]; rfl
  rw [e]
  obtain ⟨tg, ht, _⟩ := h0.prt 6
  exact ⟨h0.cell 18, tbAll_any (h := ht)⟩
theorem tset_at (hC : Cr w b S s) (j : Nat) (hj : j < s.hs.length) (x : Int) :
    Calls Tryz.prog 88 #[htP s.pt.t, .int .i64 j, .int .i64 x] w fun e w' => e = .returned (.int .i64 0) ∧ CoR w b S (s.put (s.hs.set j x)) w' := by
  have hC' := hC
  obtain ⟨P, own, h0, rfl, rfl⟩ := hC
  have e : s.pt.t = P.t := by rw [h0.pts]; rfl
  obtain ⟨t, c18, H⟩ := tset_co hC' j hj x
  have := c18.symm.trans (h0.cell 18)
  have et : t = P.t := by
    have : some (htP t) = some (htP P.t) := this
    simpa using this
  rw [e, ← et]
  exact H

/-- The first handles' objects have left, one behind the other. -/
inductive HandD (s : Co) (A : Hp) (hs : List Int) : Nat → Co → Hp → Prop
  | zero : HandD s A hs 0 (Co.begun s) A.start
  | succ {j : Nat} {t u : Co} {B C : Hp} {p r : Int} : HandD s A hs j t B → hs[j]? = some p → MoveD t B p u C r → HandD s A hs (j + 1) (u.put (u.hs.set j r)) { C with hs := u.hs.set j r }
theorem HandD.re {t : Co} {B : Hp} {hs : List Int} {j : Nat} (m : HandD s A hs j t B) (P : Pts) : HandD (s.re P) A hs j (t.re P) B := by
  induction m with
  | zero => exact .zero
  | succ _ hp m ih => exact .succ ih hp (m.re P)
theorem HandD.one {t : Co} {B : Hp} {hs : List Int} {j : Nat} (m : HandD s A hs j t B) : ∀ {t' : Co} {B' : Hp}, HandD s A hs j t' B' → t' = t ∧ B' = B := by
  induction m with
  | zero => intro t' B' k; cases k; exact ⟨rfl, rfl⟩
  | succ _ hp m ih =>
    intro t' B' k
    cases k with
    | succ k1 hp' m' =>
      obtain ⟨rfl, rfl⟩ := ih k1
      rw [hp] at hp'; cases hp'
      obtain ⟨rfl, rfl, rfl⟩ := m.one m'
      exact ⟨rfl, rfl⟩

/-- So far j handles' objects have left. -/
def StI (w wr : World) (b : Nat) (S : Nat → Prop) (s : Co) (A : Hp) (hs : List Int) (ao : Option Addr) (cap j : Nat) : Prop :=
  ∃ s' B, Cw w wr S (fun k => blkOf ao = some k) b s' ∧ Sim s' B ∧ Inv 0 B ∧ Scan s' B ∧ s'.cf = s.cf ∧ s'.pt = s.pt ∧ s'.mv = true ∧ s'.gx = s.gx ∧ s'.ph = s.ph ∧ nums s' = nums s ∧ (Prims (Co.begun s) A.start s' B ∧ left_ s' B ≤ 2 * A.F.length + (s.ry.length + s.rn.count true) ∧ HandD s A hs j s' B) ∧ (∀ p, ¬ B.D p) ∧ (∀ G f, Rep A G f → ∃ f', Rep B G f') ∧
    s'.hs.length = hs.length ∧ (∀ (m : Nat) (p : Int), s'.hs[m]? = some p → (m < j → p ∉ B.E) ∧ (j ≤ m → hs[m]? = some p)) ∧ Qu wr ao hs.length cap hs

/-- One handle more. -/
theorem StI.move {wr : World} {hs : List Int} {ao : Option Addr} {cap j : Nat} {p : Int} (h : StI w wr b S s A hs ao cap j) (hp : hs[j]? = some p) :
    Calls Tryz.prog 32 #[ptr b, .int .i64 p] wr fun e w' => ∃ r, e = .returned (.int .i64 r) ∧ (∃ S' s', Cr w' b S' s' ∧ s'.pt = s.pt) ∧ ∀ w1, Below w'.heap.size w' w1 →
      Calls Tryz.prog 88 #[htP s.pt.t, .int .i64 j, .int .i64 r] w1 fun e w2 => e = .returned (.int .i64 0) ∧ StI w w2 b S s A hs ao cap (j + 1) := by
  obtain ⟨s1, B, k1, h1, i1, sc, cf, ept, mv, gx, ph, mi, ⟨tr, lf, hd⟩, hD, rp, hl, hh, q1⟩ := h
  have jl := (List.getElem?_eq_some_iff.1 hp).1
  have hj : s1.hs[j]? = some p := by
    have e : s1.hs[j]? = some s1.hs[j] := List.getElem?_eq_getElem (by omega)
    have := (hh j _ e).2 (Nat.le_refl _)
    rw [hp] at this; cases this
    exact e
  have ok : B.ok p := i1.hs p (by rw [h1.hs]; exact List.mem_of_getElem? hj)
  obtain ⟨S1, c1, m1, z1⟩ := k1.is
  refine (move_sim c1 h1 i1 ok).mono ?_
  rintro e w' ⟨s2, C, r, rfl, cr, mR, h2, sm⟩
  obtain ⟨i2, md, rk, rE, rn, _⟩ := mR.r.keeps i1 (.inl rfl) ok
  obtain ⟨k2, p2⟩ := k1.after m1 z1 cr
  have q2 := q1.kp p2 fun k e => e
  obtain ⟨S2, c2, m2⟩ := cr
  refine ⟨r, rfl, ⟨S2, s2, c2, sm.pt.trans ept⟩, fun w1 f1 => ?_⟩
  obtain ⟨S3, c3, m3, z3⟩ := (k2.keep f1).is
  have jl2 : j < s2.hs.length := by rw [sm.hs]; omega
  have T := tset_at c3 j jl2 r
  rw [sm.pt, ept] at T
  refine T.mono ?_
  rintro e w2 ⟨he, cr2⟩
  obtain ⟨k3, p3⟩ := (k2.keep f1).after m3 z3 cr2
  have now : (s2.hs.set j r).map C.now = C.hs.map C.now := by
    rw [List.map_set, show C.now r = r from Hp.now_no rE, ← rn, h2.hs]
    refine set_same ?_
    rw [List.getElem?_map, sm.hs, hj]
    rfl
  refine ⟨he, s2.put (s2.hs.set j r), { C with hs := s2.hs.set j r }, k3, ?_, ?_, ?_, sm.cf.trans cf, sm.pt.trans ept, sm.mv.trans mv, sm.gx.trans gx, sm.ph.trans ph, sm.nums.trans mi, ⟨tr.trans (.trans (.move i1 (.inl (by rw [h1.hs]; exact List.mem_of_getElem? hj)) mR) (.side rfl rfl rfl rfl rfl rfl rfl now)), ?_, hd.succ hp mR⟩, fun q => by show ¬ C.D q; rw [md.D]; exact hD q, fun G f r0 => ?_, ?_, fun m q hq => ?_, (q2.keep f1).kp p3 fun k e => e⟩
  · exact { h2 with laid := h2.laid.side rfl rfl rfl rfl, hs := rfl }
  · refine i2.hand fun q hq => ?_
    rcases List.mem_or_eq_of_mem_set hq with e | rfl
    · exact i2.hs q (by rw [h2.hs]; exact e)
    · exact rk
  · have : s2.scan = hAt s2.cf.nu 1 s2.yn + ((C.sum (C.F.take C.k) : Nat) : Int) := by
      obtain ⟨l, hl⟩ := md.F
      rw [sm.scan, sm.cf, sm.yn, md.k, hl, List.take_append_of_le_length i1.kl, (md.fol 0).sum _ fun q hq => (i1.dom q).2 (.inl (List.mem_of_mem_take hq))]
      exact sc
    exact this
  · have m1 := md.few
    have m2 := md.k
    show C.row.length + C.F.length + 2 * C.un.length - C.k + (s2.rx.length + s2.rm.count true) ≤ _
    rw [sm.rx, sm.rm]
    unfold left_ at lf
    have := i1.kl
    have := i2.kl
    omega
  · obtain ⟨f1, r1⟩ := rp G f r0
    obtain ⟨f2, r2⟩ := md.rep G f1 r1
    exact ⟨f2, r2.hand now⟩
  · show (s2.hs.set j r).length = hs.length
    rw [List.length_set, sm.hs]; exact hl
  · have hq : (s2.hs.set j r)[m]? = some q := hq
    by_cases e : m = j
    · subst e
      rw [List.getElem?_set_self jl2] at hq
      cases hq
      exact ⟨fun _ => rE, fun h => absurd h (by omega)⟩
    · rw [List.getElem?_set_ne (Ne.symm e), sm.hs] at hq
      obtain ⟨a1, a2⟩ := hh m q hq
      exact ⟨fun h => by show q ∉ C.E; rw [md.E]; exact a1 (by omega), fun h => a2 (by omega)⟩
end
end Gc
end Go.Proofs.YthmhehehomieiaaGreat

/- A minor cycle begins. -/
namespace Go.Proofs.YthmhehehomieiaaGreat
namespace Gc
open Go.RowKit

section
variable {A : Hp} {s : Co} {w : World} {b : Nat} {S : Nat → Prop}

/-- A start. -/
inductive StartD (s : Co) (A : Hp) : Co → Hp → Prop
  | was : s.mv = true → StartD s A s A
  | begun {t : Co} {B : Hp} : s.mv = false → HandD s A s.hs s.hs.length t B → StartD s A t B
theorem StartD.re {t : Co} {B : Hp} (m : StartD s A t B) (P : Pts) : StartD (s.re P) A (t.re P) B := by
  cases m with
  | was h => exact .was h
  | begun h m => exact .begun (s := s.re P) h (m.re P)
theorem StartD.one {t t' : Co} {B B' : Hp} (m : StartD s A t B) (k : StartD s A t' B') : t' = t ∧ B' = B := by
  cases m with
  | was h =>
    cases k with
    | was _ => exact ⟨rfl, rfl⟩
    | begun h' _ => rw [h] at h'; cases h'
  | begun h m =>
    cases k with
    | was h' => rw [h] at h'; cases h'
    | begun _ m' => exact m.one m'

/-- What comes of a start. -/
structure StartQ (s : Co) (A : Hp) (s' : Co) (B : Hp) : Prop where
  cyc : Cyc s' B
  rep : ∀ G f, Rep A G f → ∃ f', Rep B G f'
  cf : s'.cf = s.cf
  mv : s'.mv = true
  nums : nums s' = nums s
  was : s.mv = true → s' = s ∧ B = A
  begun : s.mv = false → Prims (Co.begun s) A.start s' B ∧ left_ s' B ≤ 2 * A.F.length + (s.ry.length + s.rn.count true)
  det : StartD s A s' B

/-- How a start ends. -/
def StartR (w : World) (b : Nat) (S : Nat → Prop) (s : Co) (A : Hp) (e : Ending) (w' : World) : Prop :=
  ∃ s' B, e = .returned (.bool (!s.mv)) ∧ CoR w b S s' w' ∧ StartQ s A s' B

/-- What is known while a handle's object leaves, by what was made so far. -/
def SoG (w wr : World) (b : Nat) (S : Nat → Prop) (s : Co) (A : Hp) (hs : List Int) (ao : Option Addr) (cap j : Nat) (m : Made) (w' : World) : Prop :=
  w'.cell? ⟨b, 18, none⟩ = some (htP s.pt.t) ∧ match m 7 with
    | none => Below wr.heap.size wr w'
    | some v => ∃ r, v = .int .i64 r ∧ Calls Tryz.prog 88 #[htP s.pt.t, .int .i64 j, .int .i64 r] w' fun e w2 => e = .returned (.int .i64 0) ∧ StI w w2 b S s A hs ao cap (j + 1)
theorem SoG.pure {w wr w' : World} {hs : List Int} {ao : Option Addr} {cap j : Nat} {m : Made} (h : SoG w wr b S s A hs ao cap j m w') (i : Nat) (v : Value) (hi : i ≠ 7) : SoG w wr b S s A hs ao cap j (m.upd i v) w' := by
  unfold SoG at h ⊢
  rwa [show m.upd i v 7 = m 7 from if_neg (Ne.symm hi)]
theorem SoG.seven {w wr w' : World} {hs : List Int} {ao : Option Addr} {cap j : Nat} {m : Made} {v : Value} (hc : w'.cell? ⟨b, 18, none⟩ = some (htP s.pt.t))
    (h : ∃ r, v = .int .i64 r ∧ Calls Tryz.prog 88 #[htP s.pt.t, .int .i64 j, .int .i64 r] w' fun e w2 => e = .returned (.int .i64 0) ∧ StI w w2 b S s A hs ao cap (j + 1)) : SoG w wr b S s A hs ao cap j (m.upd 7 v) w' := by
  unfold SoG
  rw [show m.upd 7 v 7 = some v from if_pos rfl]
  exact ⟨hc, h⟩
theorem SoG.of7 {w wr w' : World} {hs : List Int} {ao : Option Addr} {cap j : Nat} {m : Made} {v : Value} (h : SoG w wr b S s A hs ao cap j (m.upd 7 v) w') :
    ∃ r, v = .int .i64 r ∧ Calls Tryz.prog 88 #[htP s.pt.t, .int .i64 j, .int .i64 r] w' fun e w2 => e = .returned (.int .i64 0) ∧ StI w w2 b S s A hs ao cap (j + 1) := by
  unfold SoG at h
  rw [show m.upd 7 v 7 = some v from if_pos rfl] at h
  exact h.2
def SoV (b t j : Nat) (p : Int) : Nat → Value → Prop
  | 0 => fun v => v = ptr b
  | 1 => fun v => v = ptr b
  | 2 => fun v => v = .pointer (some ⟨b, 18, none⟩)
  | 3 => fun v => v = htP t
  | 4 => fun v => v = .int .i64 j
  | 5 => fun v => v = ptr b
  | 6 => fun v => v = .int .i64 p
  | 7 => fun v => ∃ r, v = .int .i64 r
  | _ => fun _ => True
theorem soV_some (b t j : Nat) (p : Int) : ∀ i, ∃ v, SoV b t j p i v
  | 0 => ⟨_, rfl⟩
  | 1 => ⟨_, rfl⟩
  | 2 => ⟨_, rfl⟩
  | 3 => ⟨_, rfl⟩
  | 4 => ⟨_, rfl⟩
  | 5 => ⟨_, rfl⟩
  | 6 => ⟨_, rfl⟩
  | 7 => ⟨_, 0, rfl⟩
  | _ + 8 => ⟨undef, trivial⟩

theorem StI.keep {wr w1 : World} {hs : List Int} {ao : Option Addr} {cap j : Nat} (h : StI w wr b S s A hs ao cap j) (f : Below wr.heap.size wr w1) : StI w w1 b S s A hs ao cap j := by
  obtain ⟨s1, B, k1, h1, i1, sc, cf, ept, mv, gx, ph, mi, tr, hD, rp, hl, hh, q1⟩ := h
  exact ⟨s1, B, k1.keep f, h1, i1, sc, cf, ept, mv, gx, ph, mi, tr, hD, rp, hl, hh, q1.keep f⟩
theorem StI.c18 {wr : World} {hs : List Int} {ao : Option Addr} {cap j : Nat} (h : StI w wr b S s A hs ao cap j) : wr.cell? ⟨b, 18, none⟩ = some (htP s.pt.t) := by
  obtain ⟨s1, B, k1, _, _, _, _, ept, _⟩ := h
  obtain ⟨S1, c1, _⟩ := k1.is
  rw [← ept]; exact (tall_co c1).1

set_option maxHeartbeats 8000000 in
set_option maxRecDepth 100000 in
theorem start_sim (hC : Cr w b S s) (c : Cyc s A) : Calls Tryz.prog 52 #[ptr b] w (StartR w b S s A) := by
  have c21 : w.cell? ⟨b, 21, none⟩ = some (.bool s.mv) := by obtain ⟨_, _, _, _, hc, _⟩ := hC.cell; exact hc 21
  cases hm : s.mv with
  | true =>
    rw [hm] at c21
    have RE : Hid (StartR w b S s A (.returned (.bool false)) w) := Lib.hid ⟨s, A, by rw [hm]; rfl, hC.same, c, fun G f r => ⟨f, r⟩, rfl, hm, rfl, fun _ => ⟨rfl, rfl⟩, fun e => by (rw [hm] at e; cases e), .was hm⟩
    clear hC c hm
    go_enter Tryz.func52, Tryz.ntmps52
    go_wp2
    go_ret
    exact RE.out
  | false =>
    rw [hm] at c21
    obtain ⟨hE, hX, hR, hx, hr⟩ := c.idle hm
    obtain ⟨hB, iB, sc, rp⟩ := begun_sim c hm
    have hv : s.yv = 0 := by have := c.sim.laid.he.use; rw [hE] at this; exact this
    have hgx := c.gx
    have hph := c.ph
    have hD := c.D
    -- the calls, one behind the other
    obtain ⟨y0, c14, H1⟩ := bflip_co hC hv
    have H1 := Lib.hid H1
    have H2 := Lib.hid (fun w1 S1 (k : Cr w1 b S1 (s.halves (!s.yn) 0 s.yu)) => rflip_co k hx hr)
    have LF : Hid (left_ (Co.begun s) A.start ≤ 2 * A.F.length + (s.ry.length + s.rn.count true)) := Lib.hid (by
      have h1 : A.start.un.length ≤ A.F.length := List.length_filter_le _ _
      show 0 + 0 + 2 * A.start.un.length - 0 + (s.ry.length + s.rn.count true) ≤ _
      omega)
    have ST : Hid (∀ w6 S6 (k : Cr w6 b S6 (Co.begun s)), Mv S S6 w w6 → ∀ w7 ao cap, Below w6.heap.size w6 w7 → Qu w7 ao s.hs.length cap s.hs → (∀ k, blkOf ao = some k → w6.heap.size ≤ k) → StI w w7 b S s A s.hs ao cap 0) := Lib.hid (by
      intro w6 S6 k m6 w7 ao cap f7 q7 hq
      have lt7 : ∀ k, blkOf ao = some k → k < w7.heap.size := fun k e => by
        rcases q7.lies with ⟨rfl, _⟩ | ⟨g, off, cs, rfl, hB, _⟩
        · cases e
        · cases e; exact hB.lt
      have K6 : Cw w w6 S noZ b (Co.begun s) := ⟨⟨S6, k, m6, fun _ e => e.elim⟩, fun _ e => e.elim⟩
      refine ⟨Co.begun s, A.start, K6.grow f7 (fun k e => .inr ⟨hq k e, lt7 k e⟩), hB, iB, sc, rfl, rfl, rfl, rfl, rfl, rfl, ⟨.refl _ _, LF.out, .zero⟩, hD, fun G f r => ⟨f, rp G f r⟩, rfl, fun m p hp => ⟨fun h => absurd h (Nat.not_lt_zero m), fun _ => hp⟩, q7⟩)
    have EN : Hid (∀ w8 ao cap, StI w w8 b S s A s.hs ao cap s.hs.length → StartR w b S s A (.returned (.bool true)) w8) := Lib.hid (by
      rintro w8 ao cap ⟨s1, B, k1, h1, i1, sc1, cf, ept, mv, gx, ph, mi, tr1, hD1, rp1, hl, hh, _⟩
      refine ⟨s1, B, by rw [hm]; rfl, k1.done, ⟨h1, i1, gx.trans hgx, ph.trans hph, hD1, fun p hp => ?_, fun _ => sc1, fun e => by (rw [mv] at e; cases e)⟩, rp1, cf, mv, mi, fun e => by (rw [hm] at e; cases e), fun _ => ⟨tr1.1, tr1.2.1⟩, .begun hm tr1.2.2⟩
      rw [h1.hs] at hp
      obtain ⟨m, hml, e⟩ := List.getElem_of_mem hp
      exact (hh m p (by rw [List.getElem?_eq_getElem hml, e])).1 (by omega))
    have few := hC.few
    clear hC c hE hX hR hx hr hB iB sc rp hv hgx hph hD hm
    go_enter Tryz.func52, Tryz.ntmps52
    go_wp2_with fail
    refine H1.out.mono ?_
    rintro e w1 ⟨rfl, S1, k1, m1⟩
    obtain ⟨r0, c16, h2⟩ := H2.out w1 S1 k1
    have H3 := Lib.hid h2
    have M1 := Lib.hid m1
    clear k1 m1 h2 H1 H2 c14 c21
    go_wp2_with fail
    refine H3.out.mono ?_
    rintro e w2 ⟨rfl, S2, k2, m2⟩
    obtain ⟨S3, k3, m3⟩ := k2.setMv true
    obtain ⟨AA, cc, LL, kb, kl, c25, qu, hne, hT⟩ := k3.row
    obtain ⟨S4, k4, m4⟩ := hT none 0 [] _ ⟨Frm.refl _ _, fun k e => by cases e⟩ (Qu.nil _)
    have M4 := Lib.hid (((M1.out.trans m2).trans m3).trans m4)
    have K4 := Lib.hid k4
    obtain ⟨_, _, _, _, hc2, hf2, hl2⟩ := k2.cell
    have d21 : w2.cell? ⟨b, 21, Option.none⟩ = some (.bool s.mv) := hc2 21
    obtain ⟨A2, cc2, _, _, _, d25, _⟩ := k2.row
    clear k2 m2 k3 m3 k4 m4 kb kl c25 qu hne hT H3 M1 c16 hc2
    go_upto_region 6 with (fail)
    generalize (w2.setCell ⟨b, 21, none⟩ (.bool true)).setCell ⟨b, 25, none⟩ (.slice none 0 0) = w4 at *
    clear d21 d25 hf2 hl2
    have q14 := c14_of K4.out
    have c14 : w4.cell? ⟨b, 14, Option.none⟩ = some (bpP s.pt.y) := q14
    clear q14
    have q5 := begin_co K4.out
    have H5 : Hid (Calls Tryz.prog 102 #[bpP s.pt.y] w4 fun e w' => e = .returned (.tuple #[.int .i64 (hAt s.cf.nu 1 (!s.yn)), .int .i64 (hAt s.cf.nu 1 (!(!s.yn)))]) ∧ Below w4.heap.size w4 w') := Lib.hid q5
    clear q5
    go_wp2_with fail
    refine H5.out.mono ?_
    rintro e w5 ⟨rfl, b5⟩
    have k5 := K4.out.keep b5
    obtain ⟨S6, k6, m6⟩ := k5.setScan (hAt s.cf.nu 1 (!s.yn))
    have d22 := c22_of k5
    obtain ⟨_, _, _, _, _, hf5, hl5⟩ := k5.cell
    have K6 : Hid (Cr (w5.setCell ⟨b, 22, none⟩ (.int .i64 (hAt s.cf.nu 1 (!s.yn)))) b S6 (Co.begun s)) := Lib.hid k6
    have M6 := Lib.hid ((M4.out.post b5).trans m6)
    clear k5 k6 m6 b5 H5 K4 M4 c14
    go_upto_region 7 with (fail)
    generalize w5.setCell ⟨b, 22, none⟩ (.int .i64 (hAt s.cf.nu 1 (!s.yn))) = w6 at *
    clear d22 hf5 hl5
    obtain ⟨c18, H7⟩ := tall_co K6.out
    have c18 : w6.cell? ⟨b, 18, Option.none⟩ = some (htP s.pt.t) := c18
    have H7 : Hid (Calls Tryz.prog 21 #[htP s.pt.t] w6 fun e w' => ∃ A' c', e = .returned (.slice A' s.hs.length c') ∧ Qu w' A' s.hs.length c' s.hs ∧ Below w6.heap.size w6 w' ∧ ∀ k, blkOf A' = some k → w6.heap.size ≤ k) := Lib.hid H7
    go_wp2_with fail
    refine H7.out.mono ?_
    rintro e w7 ⟨ao, cap, rfl, q7, f7, hk7⟩
    have SI := Lib.hid (ST.out w6 S6 K6.out M6.out w7 ao cap f7 q7 hk7)
    clear q7 f7 hk7 H7 ST K6 M6 c18
    generalize s.hs = hs at *
    go_wp2_with fail
    go_loopw [3, 4, 46] (fun _ _ s46 wr => ∃ j : Nat, j ≤ hs.length ∧ s46 = .int .i64 j ∧ Hid (StI w wr b S s A hs ao cap j)) (fun _ _ s46 _ => hs.length - (intOf s46).toNat)
    case atStart => exact ⟨0, Nat.zero_le _, rfl, SI⟩
    case round =>
      clear SI
      obtain ⟨j, hj, rfl, SI⟩ := hrel
      by_cases hlt : j < hs.length
      · have h1 : (j : Int) < hs.length := by omega
        have hp : hs[j]? = some hs[j] := List.getElem?_eq_getElem hlt
        generalize hs[j] = p at hp
        have MV := Lib.hid (fun v (bv : Below wr.heap.size wr v) => (SI.out.keep bv).move hp)
        have c18 := SI.out.c18
        obtain ⟨_, _, _, _, _, _, _, _, _, _, _, _, _, _, _, _, _, q1⟩ := SI.out
        obtain ⟨g, off, rfl, hg, hx, hf⟩ := q1.at_ (by omega)
        have x0 := hx j p hp
        clear q1 hx hf SI
        go_upto_region 10 with (fail)
        refine region_made_tailR (SoG w wr b S s A hs (some ⟨g, off, none⟩) cap j) (SoV b s.pt.t j p) 8 (by kernel_rfl) (by kernel_rfl) (by kernel_rfl) (soV_some _ _ _ _) ⟨c18, below_drew wr⟩ ?_
        simp only [List.take_succ_cons, List.take_zero, List.drop_succ_cons, List.drop_zero]
        refine wpMadeR_step ?_ ?_
        · intro m' w' hg hag
          go_simp
          exact ⟨rfl, hg.pure _ _ (by decide)⟩
        intro K hK
        rintro _ rfl
        go_simp
        refine hK _ _ ?_
        clear hK K
        refine wpMadeR_step ?_ ?_
        · intro m' w' hg hag
          go_simp
          exact ⟨rfl, hg.pure _ _ (by decide)⟩
        intro K hK
        rintro _ rfl
        go_simp
        refine hK _ _ ?_
        clear hK K
        refine wpMadeR_step ?_ ?_
        · intro m' w' hg hag
          go_simp
          exact ⟨rfl, hg.pure _ _ (by decide)⟩
        intro K hK
        rintro _ rfl
        go_simp
        refine hK _ _ ?_
        clear hK K
        refine wpMadeR_step ?_ ?_
        · intro m' w' hg hag
          have q1 := hg.1
          go_simp
          exact ⟨rfl, hg.pure _ _ (by decide)⟩
        intro K hK
        rintro _ rfl
        go_simp
        refine hK _ _ ?_
        clear hK K
        refine wpMadeR_step ?_ ?_
        · intro m' w' hg hag
          go_simp
          exact ⟨rfl, hg.pure _ _ (by decide)⟩
        intro K hK
        rintro _ rfl
        go_simp
        refine hK _ _ ?_
        clear hK K
        refine wpMadeR_step ?_ ?_
        · intro m' w' hg hag
          go_simp
          exact ⟨rfl, hg.pure _ _ (by decide)⟩
        intro K hK
        rintro _ rfl
        go_simp
        refine hK _ _ ?_
        clear hK K
        refine wpMadeR_step ?_ ?_
        · intro m' w' hg hag
          go_simp
          exact ⟨rfl, hg.pure _ _ (by decide)⟩
        intro K hK
        rintro _ rfl
        go_simp
        refine hK _ _ ?_
        clear hK K
        refine wpMadeR_step ?_ ?_
        · intro m' w' hg hag
          have h7 : m' 7 = none := hag 7 (.inl rfl)
          have hb7 := hg.2
          rw [h7] at hb7
          go_simp
          refine (MV.out w' hb7).mono ?_
          rintro e w3 ⟨r, he, ⟨S', s', c', hpt⟩, hset⟩
          refine ⟨_, he, ⟨r, rfl⟩, .seven (by rw [← hpt]; exact (tall_co c').1) ⟨r, rfl, hset w3 (Below.refl _ _)⟩⟩
        intro K hK
        rintro _ ⟨r0, rfl⟩
        go_simp
        refine hK _ _ ?_
        clear hK K
        refine wpMadeR_nil ?_
        intro w' hg
        obtain ⟨r, er, HS⟩ := hg.of7
        injection er with _ er
        subst er
        have HS := Lib.hid HS
        clear hg c18 MV x0
        go_wp2_with fail
        refine HS.out.mono ?_
        rintro e v2 ⟨rfl, FK⟩
        have FK := Lib.hid FK
        clear HS
        go_wp2
        go_roundw
        case rel => exact ⟨j + 1, by omega, by go_num, FK⟩
        case measure => simp [intOf]; omega
      · obtain rfl : j = hs.length := by omega
        have RE := Lib.hid (EN.out _ _ _ SI.out)
        clear SI EN
        go_wp2
        go_ret
        exact RE.out

end
end Gc
end Go.Proofs.YthmhehehomieiaaGreat

/- Contracts of Make. -/
namespace Go.Proofs.YthmhehehomieiaaGreat
open Go.RowKit

section
variable {w : World} {b : Nat} {S : Nat → Prop} {s : Co}

set_option maxHeartbeats 1000000 in
theorem make_none (h p q : Int) (w : World) :
    Calls Tryz.prog 33 #[.pointer Option.none, .int .i64 h, .int .i64 p, .int .i64 q] w fun e w' => e = .returned (.int .i64 1) ∧ w = w' := by
  go_enter Tryz.func33, Tryz.ntmps33
  go_wp2_with fail
  refine (handle_none _ _).mono ?_
  rintro e w1 ⟨rfl, rfl⟩
  go_wp2
  go_ret
  exact ⟨rfl, rfl⟩

set_option maxHeartbeats 1000000 in
theorem make_no_h (hC : Cr w b S s) (h p q : Int) (e0 : s.has h = false) :
    Calls Tryz.prog 33 #[ptr b, .int .i64 h, .int .i64 p, .int .i64 q] w fun e w' => e = .returned (.int .i64 3) ∧ w = w' := by
  have H := handle_any hC h
  have e2 := (Co.has_no e0).2.1
  have e3 := (Co.has_no e0).2.2
  rw [e2, e3] at H
  have H := Lib.hid H
  clear e0 e2 e3 hC
  go_enter Tryz.func33, Tryz.ntmps33
  go_wp2_with fail
  refine H.out.mono ?_
  rintro e w1 ⟨rfl, rfl⟩
  clear H
  go_wp2
  go_ret
  exact ⟨rfl, rfl⟩

set_option maxHeartbeats 2000000 in
theorem make_size (hC : Cr w b S s) (h p q : Int) (e0 : s.has h = true) (hs : p < 0 ∨ q < 0 ∨ s.cf.lg - q < p) (q1 : q ≤ 9223372036854775807) :
    Calls Tryz.prog 33 #[ptr b, .int .i64 h, .int .i64 p, .int .i64 q] w fun e w' => e = .returned (.int .i64 6) ∧ w = w' := by
  have H := handle_any hC h
  have e3 := Co.hE_yes e0
  rw [e3] at H
  have H := Lib.hid H
  have may := hC.may
  have l0 := may.lg0
  have l1 := may.lg1
  obtain ⟨P, own, h0, _, hc, _⟩ := hC.cell
  have c8 : w.cell? ⟨b, 8, Option.none⟩ = some (.int .i64 s.cf.lg) := hc 8
  clear e0 e3 hC may h0 hc
  generalize s.cf.lg = lg at *
  by_cases p0 : p < 0
  · clear hs
    go_enter Tryz.func33, Tryz.ntmps33
    go_wp2_with fail
    refine H.out.mono ?_
    rintro e w1 ⟨rfl, rfl⟩
    clear H
    go_wp2
    go_ret
    exact ⟨rfl, rfl⟩
  · by_cases q0 : q < 0
    · clear hs
      go_enter Tryz.func33, Tryz.ntmps33
      go_wp2_with fail
      refine H.out.mono ?_
      rintro e w1 ⟨rfl, rfl⟩
      clear H
      go_wp2
      go_ret
      exact ⟨rfl, rfl⟩
    · have hw : IntKind.i64.wrap (lg - q) = lg - q := IntWalk.i64_in _ (by omega)
      have hs : lg - q < p := by omega
      go_enter Tryz.func33, Tryz.ntmps33
      go_wp2_with fail
      refine H.out.mono ?_
      rintro e w1 ⟨rfl, rfl⟩
      clear H
      go_wp2
      go_ret
      exact ⟨rfl, rfl⟩

/-- Where the next object stands. -/
def Co.next (s : Co) : Int := hAt s.cf.nu 1 s.yn + s.yu
/-- What is left when an object has been made. -/
def Co.made (s : Co) (h p q : Int) : Co :=
  (((s.took (p + q + 2)).wrote (madeW s.ws s.next (p + q) (wordI (p + q) p 0 s.par false false false))).did (s.d.al + 1) (s.d.wd + (p + q + 2))).put (s.hs.set h.toNat s.next)

set_option maxHeartbeats 4000000 in
theorem make_room (hC : Cr w b S s) (h p q : Int) (e0 : s.has h = true) (p0 : 0 ≤ p) (q0 : 0 ≤ q) (hl : p ≤ s.cf.lg - q) (hm : s.mv = false) (hr : s.cf.nu - s.yu < p + q + 2) :
    Calls Tryz.prog 33 #[ptr b, .int .i64 h, .int .i64 p, .int .i64 q] w fun e w' => e = .returned (.int .i64 7) ∧ Below w.heap.size w w' := by
  have H := handle_any hC h
  have e3 := Co.hE_yes e0
  rw [e3] at H
  have H := Lib.hid H
  have may := hC.may
  have l0 := may.lg0
  have l1 := may.lg1
  obtain ⟨P, own, h0, _, hc, _⟩ := hC.cell
  have c8 : w.cell? ⟨b, 8, Option.none⟩ = some (.int .i64 s.cf.lg) := hc 8
  have c19 : w.cell? ⟨b, 19, Option.none⟩ = some (.int .i64 s.par) := hc 19
  have HC := Lib.hid hC
  have HR := Lib.hid hr
  have HM := Lib.hid hm
  clear e0 e3 hC may h0 hc hr hm
  generalize s.cf.lg = lg at *
  generalize s.par = y at *
  have hw : IntKind.i64.wrap (lg - q) = lg - q := IntWalk.i64_in _ (by omega)
  have hw2 : IntKind.i64.wrap (p + q) = p + q := IntWalk.i64_in _ (by omega)
  have z0 : 0 ≤ p + q := by omega
  have z1 : p + q ≤ 64 := by omega
  go_enter Tryz.func33, Tryz.ntmps33
  go_wp2_with fail
  refine H.out.mono ?_
  rintro e w1 ⟨rfl, rfl⟩
  clear H
  go_wp2_with fail
  refine (oWords_any _ _ _ _ _ _ _ _ z0 z1).mono ?_
  rintro e w1 ⟨rfl, b1⟩
  have b1' := below_alloc_trans _ b1
  have k1 := HC.out.keep b1'
  have HT := Lib.hid (take_no k1 (p + q + 2) HM.out HR.out)
  have B1 := Lib.hid b1'
  clear b1 b1' k1 c8 c19
  go_wp2_with fail
  refine HT.out.mono ?_
  rintro e w2 ⟨rfl, b2⟩
  have B2 := Lib.hid (below_trans B1.out b2)
  clear HT b2 B1
  go_wp2
  go_ret
  exact ⟨rfl, B2.out⟩

set_option maxHeartbeats 8000000 in
set_option maxRecDepth 100000 in
theorem make_yes_c (hC : Cr w b S s) (h p q : Int) (e0 : s.has h = true) (p0 : 0 ≤ p) (q0 : 0 ≤ q) (hl : p ≤ s.cf.lg - q) (hm : s.mv = false) (hr : p + q + 2 ≤ s.cf.nu - s.yu) (hy : s.par = 0 ∨ s.par = 1)
    (ha : 0 ≤ s.next) (hw : s.next + (p + q + 2) ≤ s.ws.length) (a0 : 0 ≤ s.d.al) (a1 : s.d.al ≤ 4611686018427387904) (d0 : 0 ≤ s.d.wd) (d1 : s.d.wd ≤ 4611686018427387904) :
    Calls Tryz.prog 33 #[ptr b, .int .i64 h, .int .i64 p, .int .i64 q] w fun e w' => e = .returned (.int .i64 0) ∧ CoR w b S (s.made h p q) w' := by
  have H := handle_any hC h
  have e3 := Co.hE_yes e0
  rw [e3] at H
  have H := Lib.hid H
  have may := hC.may
  have l0 := may.lg0
  have l1 := may.lg1
  obtain ⟨P, own, h0, _, hc, _⟩ := hC.cell
  have c8 : w.cell? ⟨b, 8, Option.none⟩ = some (.int .i64 s.cf.lg) := hc 8
  have c19 : w.cell? ⟨b, 19, Option.none⟩ = some (.int .i64 s.par) := hc 19
  have W0 := Lib.hid hC.way
  have HR := Lib.hid hr
  have HM := Lib.hid hm
  obtain ⟨i, hi, hi2, _, _⟩ := Co.has_yes e0
  have hit : h.toNat = i := by omega
  have HI := Lib.hid (And.intro hi (And.intro hit hi2))
  have HL := Lib.hid hw
  have HG : Hid (goodB (p + q) p 0 s.par = true) := Lib.hid ((goodB_iff ..).2 (by omega))
  clear e0 e3 may h0 hc hr hm hw hi hi2 hit
  have hlg : s.cf.lg = s.cf.lg := rfl
  have hw : IntKind.i64.wrap (s.cf.lg - q) = s.cf.lg - q := IntWalk.i64_in _ (by omega)
  have hw2 : IntKind.i64.wrap (p + q) = p + q := IntWalk.i64_in _ (by omega)
  have hw3 : IntKind.i64.wrap (s.d.al + 1) = s.d.al + 1 := IntWalk.i64_in _ (by omega)
  have hw4 : IntKind.i64.wrap (s.d.wd + (p + q + 2)) = s.d.wd + (p + q + 2) := IntWalk.i64_in _ (by omega)
  have z0 : 0 ≤ p + q := by omega
  have z1 : p + q ≤ 64 := by omega
  clear hlg hy
  go_enter Tryz.func33, Tryz.ntmps33
  go_wp2_with fail
  refine H.out.mono ?_
  rintro e w1 ⟨rfl, rfl⟩
  clear H hC
  go_wp2_with fail
  refine (oWords_any _ _ _ _ _ _ _ _ z0 z1).mono ?_
  rintro e w1 ⟨rfl, b1⟩
  have K1 := Lib.hid ((W0.out.box (.cells #[.int .i64 (p + q), .int .i64 p, .int .i64 0, .int .i64 s.par, .bool false, .bool false, .bool false] 93)).keep b1)
  have X1 := Lib.hid ((Blk.new w #[.int .i64 (p + q), .int .i64 p, .int .i64 0, .int .i64 s.par, .bool false, .bool false, .bool false] 93).keep b1)
  clear b1 c8 c19
  have HT := Lib.hid (K1.out.call (R := fun e => e = .returned (.tuple #[.int .i64 s.next, .bool true])) fun S k => take_yes k (p + q + 2) HM.out (by omega) HR.out)
  go_wp2_with fail
  refine HT.out.mono ?_
  rintro e w2 ⟨rfl, k2, kp2⟩
  have K2 := Lib.hid (k2.keep (below_drew w2))
  have x2 := X1.out.kp kp2 (.inr rfl)
  have X2 := Lib.hid x2
  obtain ⟨S2, C2, M2, Z2⟩ := K2.out.is
  obtain ⟨a, c13, hmk⟩ := make_co C2 s.next (p + q) p s.par HG.out ha HL.out
  have HMk := Lib.hid hmk
  have M2 := Lib.hid M2
  have Z2 := Lib.hid Z2
  have d13 : w2.cell? ⟨b, 13, Option.none⟩ = some (arP a) := c13
  obtain ⟨x0, x1, x2', x3, x4, x5, x6, xf⟩ := x2.seven
  clear HT k2 kp2 K1 X1 x2 hmk C2 c13
  go_wp2
  go_still_tail 6, (by kernel_rfl)
  change wpList _ _ _ _ _ w2.drew
  clear d13 x0 x1 x2' x3 x4 x5 x6 xf
  go_wp2_with fail
  refine HMk.out.mono ?_
  rintro e w3 ⟨rfl, r3⟩
  have k3 := (K2.out.after M2.out Z2.out r3).1
  clear HMk r3 M2 Z2 K2 X2
  obtain ⟨S3, C3, M3, Z3⟩ := k3.is
  obtain ⟨P3, own3, h3, _, hc, hf, _⟩ := C3.cell
  have c26 : w3.cell? ⟨b, 26, Option.none⟩ = some (.int .i64 s.d.al) := hc 26
  have c27 : w3.cell? ⟨b, 27, Option.none⟩ = some (.int .i64 s.d.wd) := hc 27
  obtain ⟨S4, C4, M4⟩ := C3.did (s.d.al + 1) (s.d.wd + (p + q + 2))
  obtain ⟨t, c18, ht⟩ := tset_co C4 i HI.out.2.2 s.next
  have K3 := Lib.hid k3
  have M3 := Lib.hid M3
  have Z3 := Lib.hid Z3
  have M4 := Lib.hid M4
  rw [← HI.out.1] at ht
  have HT := Lib.hid ht
  clear h3 hc k3 C3 C4 ht
  go_wp2_with fail
  refine HT.out.mono ?_
  rintro e w5 ⟨rfl, r5⟩
  obtain ⟨S5, C5, M5⟩ := r5
  have RE : Hid (CoR w b S (s.made h p q) w5) := Lib.hid ⟨S5, by unfold Co.made; rw [HI.out.2.1]; exact C5, (M3.out.trans M4.out).trans M5⟩
  clear C5 M5 HT c18 c26 c27 hf M3 M4 Z3 K3
  go_wp2
  go_ret
  exact ⟨rfl, RE.out⟩
end
end Go.Proofs.YthmhehehomieiaaGreat

/- Contracts of Read, Write, Shape; of Clear, Copy, Same, Nil. -/
namespace Go.Proofs.YthmhehehomieiaaGreat
open Go.RowKit

/-- What else stands in a head. -/
structure HdP where
  (g y : Int)
  (f1 f2 f3 : Bool)

/-- A handle holds an object: where it stands, how many fields it has, how many of them are references. -/
structure Ob (s : Co) (h x z p : Int) (t : HdP) : Prop where
  has : s.has h = true
  at_ : s.at_ h = x
  x0 : 0 < x
  word : s.ws[x.toNat]? = some (wordI z p t.g t.y t.f1 t.f2 t.f3)
  good : goodB z p t.g t.y = true

section
variable {w : World} {b : Nat} {S : Nat → Prop} {s : Co} {h x z p : Int} {t : HdP}

theorem Ob.nums (o : Ob s h x z p t) : 0 ≤ p ∧ p ≤ z ∧ z ≤ 64 := by
  obtain ⟨h0, h1, h2, h3, _⟩ := (goodB_iff ..).1 o.good
  omega

abbrev Ob.v (z p : Int) (t : HdP) : Value := hdV z p t.g t.y t.f1 t.f2 t.f3

theorem held_ob (hC : Cr w b S s) (o : Ob s h x z p t) :
    Calls Tryz.prog 89 #[ptr b, .int .i64 h] w fun e w' => e = .returned (.tuple #[.int .i64 x, Ob.v z p t, .int .i64 0]) ∧ CoR w b S s w' :=
  held_yes hC h o.has x z p t.g t.y t.f1 t.f2 t.f3 o.at_ o.x0 o.word o.good

/-- What held says where there is no object. -/
def Wrong (pv : Value) (h E : Int) (w : World) : Prop := Calls Tryz.prog 89 #[pv, .int .i64 h] w fun e w' => e = .returned (.tuple #[.int .i64 0, noV, .int .i64 E]) ∧ Below w.heap.size w w'

theorem wrong_none (h : Int) (w : World) : Wrong (.pointer Option.none) h 1 w := held_none h w
theorem wrong_no (hC : Cr w b S s) (e : s.has h = false) : Wrong (ptr b) h 3 w := held_no hC h e
theorem wrong_nil (hC : Cr w b S s) (e : s.has h = true) (a : s.at_ h = 0) : Wrong (ptr b) h 4 w := held_nil hC h e a

set_option maxHeartbeats 1000000 in
theorem read_wrong {pv : Value} (h n E : Int) (hE : E ≠ 0) (w : World) (H : Wrong pv h E w) :
    Calls Tryz.prog 37 #[pv, .int .i64 h, .int .i64 n] w fun e w' => e = .returned (.tuple #[.int .u64 0, .int .i64 E]) ∧ Below w.heap.size w w' := by
  have H := Lib.hid H
  unfold Wrong at H
  go_enter Tryz.func37, Tryz.ntmps37
  go_wp2_with fail
  refine H.out.mono ?_
  rintro e w1 ⟨rfl, b1⟩
  have B1 := Lib.hid (b1.alloc b1.size hdO)
  clear b1 H
  go_wp2
  go_ret2
  exact ⟨rfl, B1.out⟩

set_option maxHeartbeats 1000000 in
theorem write_wrong {pv : Value} (h n v E : Int) (hE : E ≠ 0) (w : World) (H : Wrong pv h E w) :
    Calls Tryz.prog 40 #[pv, .int .i64 h, .int .i64 n, .int .u64 v] w fun e w' => e = .returned (.int .i64 E) ∧ Below w.heap.size w w' := by
  have H := Lib.hid H
  unfold Wrong at H
  go_enter Tryz.func40, Tryz.ntmps40
  go_wp2_with fail
  refine H.out.mono ?_
  rintro e w1 ⟨rfl, b1⟩
  have B1 := Lib.hid (b1.alloc b1.size hdO)
  clear b1 H
  go_wp2
  go_ret
  exact ⟨rfl, B1.out⟩

set_option maxHeartbeats 1000000 in
theorem set_wrong {pv : Value} (h n f E : Int) (hE : E ≠ 0) (w : World) (H : Wrong pv h E w) :
    Calls Tryz.prog 41 #[pv, .int .i64 h, .int .i64 n, .int .i64 f] w fun e w' => e = .returned (.int .i64 E) ∧ Below w.heap.size w w' := by
  have H := Lib.hid H
  unfold Wrong at H
  go_enter Tryz.func41, Tryz.ntmps41
  go_wp2_with fail
  refine H.out.mono ?_
  rintro e w1 ⟨rfl, b1⟩
  have B1 := Lib.hid (b1.alloc b1.size hdO)
  clear b1 H
  go_wp2
  go_ret
  exact ⟨rfl, B1.out⟩

set_option maxHeartbeats 1000000 in
theorem get_wrong {pv : Value} (t h n E : Int) (hE : E ≠ 0) (w : World) (H : Wrong pv h E w) :
    Calls Tryz.prog 35 #[pv, .int .i64 t, .int .i64 h, .int .i64 n] w fun e w' => e = .returned (.int .i64 E) ∧ Below w.heap.size w w' := by
  have H := Lib.hid H
  unfold Wrong at H
  go_enter Tryz.func35, Tryz.ntmps35
  go_wp2_with fail
  refine H.out.mono ?_
  rintro e w1 ⟨rfl, b1⟩
  have B1 := Lib.hid (b1.alloc b1.size hdO)
  clear b1 H
  go_wp2
  go_ret
  exact ⟨rfl, B1.out⟩

set_option maxHeartbeats 2000000 in
set_option maxRecDepth 100000 in
theorem read_field (hC : Cr w b S s) (o : Ob s h x z p t) (n : Int) (hb : scaB z p n = false) :
    Calls Tryz.prog 37 #[ptr b, .int .i64 h, .int .i64 n] w fun e w' => e = .returned (.tuple #[.int .u64 0, .int .i64 5]) ∧ CoR w b S s w' := by
  have HB := Lib.hid hb
  clear hb
  have K0 := Lib.hid hC.way
  have H := Lib.hid (held_ob hC o)
  have N := o.nums
  have O := Lib.hid o
  obtain ⟨n0, n1, n2⟩ := N
  clear hC o
  go_enter Tryz.func37, Tryz.ntmps37
  go_wp2_with fail
  refine H.out.mono ?_
  rintro e w1 ⟨rfl, r1⟩
  have k1 := (K0.out.after (Mv.of_below (Below.refl _ _)) (fun _ e => e.elim) r1).1
  have K1 := Lib.hid (k1.box (.cells #[.int .i64 z, .int .i64 p, .int .i64 t.g, .int .i64 t.y, .bool t.f1, .bool t.f2, .bool t.f3] 93))
  have X1 := Lib.hid (Blk.new w1 #[.int .i64 z, .int .i64 p, .int .i64 t.g, .int .i64 t.y, .bool t.f1, .bool t.f2, .bool t.f3] 93)
  clear H r1 k1 K0
  have HS := Lib.hid (fun w => isSca_any z p t.g t.y n t.f1 t.f2 t.f3 w n0 n1 n2)
  go_wp2_with fail
  refine (HS.out _).mono ?_
  rw [HB.out]
  rintro e w2 ⟨rfl, b2⟩
  have K2 := Lib.hid (K1.out.keep b2)
  have X2 := Lib.hid (X1.out.keep b2)
  clear b2 K1 X1 HS
  go_wp2
  go_ret2
  exact ⟨rfl, K2.out.done⟩

theorem scaB_iff {z p n : Int} : scaB z p n = true ↔ 0 ≤ n ∧ n < z - p := by unfold scaB; rw [Bool.and_eq_true, decide_eq_true_eq, decide_eq_true_eq]
theorem refB_iff {p n : Int} : refB p n = true ↔ 0 ≤ n ∧ n < p := by unfold refB; rw [Bool.and_eq_true, decide_eq_true_eq, decide_eq_true_eq]

set_option maxHeartbeats 4000000 in
set_option maxRecDepth 100000 in
theorem read_yes (hC : Cr w b S s) (o : Ob s h x z p t) (n v : Int) (hb : scaB z p n = true) (hv : s.ws[(x + (2 + (p + n))).toNat]? = some v) :
    Calls Tryz.prog 37 #[ptr b, .int .i64 h, .int .i64 n] w fun e w' => e = .returned (.tuple #[.int .u64 v, .int .i64 0]) ∧ CoR w b S s w' := by
  have HB := Lib.hid hb
  have m := scaB_iff.1 hb
  obtain ⟨m0, m1⟩ := m
  have HV := Lib.hid hv
  clear hb hv
  have K0 := Lib.hid hC.way
  have H := Lib.hid (held_ob hC o)
  have N := o.nums
  have O := Lib.hid o
  obtain ⟨n0, n1, n2⟩ := N
  clear hC o
  go_enter Tryz.func37, Tryz.ntmps37
  go_wp2_with fail
  refine H.out.mono ?_
  rintro e w1 ⟨rfl, r1⟩
  have k1 := (K0.out.after (Mv.of_below (Below.refl _ _)) (fun _ e => e.elim) r1).1
  have K1 := Lib.hid (k1.box (.cells #[.int .i64 z, .int .i64 p, .int .i64 t.g, .int .i64 t.y, .bool t.f1, .bool t.f2, .bool t.f3] 93))
  have X1 := Lib.hid (Blk.new w1 #[.int .i64 z, .int .i64 p, .int .i64 t.g, .int .i64 t.y, .bool t.f1, .bool t.f2, .bool t.f3] 93)
  clear H r1 k1 K0
  have HS := Lib.hid (fun w => isSca_any z p t.g t.y n t.f1 t.f2 t.f3 w n0 n1 n2)
  go_wp2_with fail
  refine (HS.out _).mono ?_
  rw [HB.out]
  rintro e w2 ⟨rfl, b2⟩
  have K2 := Lib.hid (K1.out.keep b2)
  have X2 := Lib.hid (X1.out.keep b2)
  clear b2 K1 X1 HS
  have hw : IntKind.i64.wrap (p + n) = p + n := IntWalk.i64_in _ (by omega)
  obtain ⟨S2, C2, M2, Z2⟩ := K2.out.is
  obtain ⟨a, c13, hq⟩ := field_co2 (C2.keep (below_drew w2)) x (p + n) v (by omega) (by omega) (by have := O.out.x0; omega) HV.out
  have HQ := Lib.hid hq
  have M2 := Lib.hid M2
  have Z2 := Lib.hid Z2
  have XD := X2.out.drew
  obtain ⟨x0, x1, x2', x3, x4, x5, x6, xf⟩ := X2.out.seven
  clear C2 hq x0 x2' x3 x4 x5 x6 xf
  go_wp2
  clear x1
  have x1 := XD.cell 1
  clear XD
  go_region_held3 (fun w' => w'.cell? ⟨b, 13, Option.none⟩ = some (arP a) ∧ w'.cell? ⟨w1.heap.size, 1, Option.none⟩ = some (.int .i64 p)) (exact ⟨c13, x1⟩) (first
    | (go_at_call 91; refine HQ.out.mono ?_; rintro e w3 ⟨rfl, r3, c13⟩; have ka := ((K2.out.keep (below_drew w2)).after (M2.out.post (below_drew w2)) Z2.out r3); have x1 := ((X2.out.drew).kp ka.2 (.inr rfl)).cell 1; have RE := Lib.hid ka.1.done; clear ka r3))
  all_goals
    go_wp2
    go_ret2
    exact ⟨rfl, RE.out⟩

set_option maxHeartbeats 2000000 in
set_option maxRecDepth 100000 in
theorem write_field (hC : Cr w b S s) (o : Ob s h x z p t) (n v : Int) (hb : scaB z p n = false) :
    Calls Tryz.prog 40 #[ptr b, .int .i64 h, .int .i64 n, .int .u64 v] w fun e w' => e = .returned (.int .i64 5) ∧ CoR w b S s w' := by
  have HB := Lib.hid hb
  clear hb
  have K0 := Lib.hid hC.way
  have H := Lib.hid (held_ob hC o)
  have N := o.nums
  have O := Lib.hid o
  obtain ⟨n0, n1, n2⟩ := N
  clear hC o
  go_enter Tryz.func40, Tryz.ntmps40
  go_wp2_with fail
  refine H.out.mono ?_
  rintro e w1 ⟨rfl, r1⟩
  have k1 := (K0.out.after (Mv.of_below (Below.refl _ _)) (fun _ e => e.elim) r1).1
  have K1 := Lib.hid (k1.box (.cells #[.int .i64 z, .int .i64 p, .int .i64 t.g, .int .i64 t.y, .bool t.f1, .bool t.f2, .bool t.f3] 93))
  have X1 := Lib.hid (Blk.new w1 #[.int .i64 z, .int .i64 p, .int .i64 t.g, .int .i64 t.y, .bool t.f1, .bool t.f2, .bool t.f3] 93)
  clear H r1 k1 K0
  have HS := Lib.hid (fun w => isSca_any z p t.g t.y n t.f1 t.f2 t.f3 w n0 n1 n2)
  go_wp2_with fail
  refine (HS.out _).mono ?_
  rw [HB.out]
  rintro e w2 ⟨rfl, b2⟩
  have K2 := Lib.hid (K1.out.keep b2)
  have X2 := Lib.hid (X1.out.keep b2)
  clear b2 K1 X1 HS
  go_wp2
  go_ret
  exact ⟨rfl, K2.out.done⟩

set_option maxHeartbeats 4000000 in
set_option maxRecDepth 100000 in
theorem write_yes (hC : Cr w b S s) (o : Ob s h x z p t) (n v : Int) (hb : scaB z p n = true) (hv : (x + (2 + (p + n))).toNat < s.ws.length) :
    Calls Tryz.prog 40 #[ptr b, .int .i64 h, .int .i64 n, .int .u64 v] w fun e w' => e = .returned (.int .i64 0) ∧ CoR w b S (s.wrote (s.ws.set (x + (2 + (p + n))).toNat v)) w' := by
  have HB := Lib.hid hb
  have m := scaB_iff.1 hb
  obtain ⟨m0, m1⟩ := m
  have HV := Lib.hid hv
  clear hb hv
  have K0 := Lib.hid hC.way
  have H := Lib.hid (held_ob hC o)
  have N := o.nums
  have O := Lib.hid o
  obtain ⟨n0, n1, n2⟩ := N
  clear hC o
  go_enter Tryz.func40, Tryz.ntmps40
  go_wp2_with fail
  refine H.out.mono ?_
  rintro e w1 ⟨rfl, r1⟩
  have k1 := (K0.out.after (Mv.of_below (Below.refl _ _)) (fun _ e => e.elim) r1).1
  have K1 := Lib.hid (k1.box (.cells #[.int .i64 z, .int .i64 p, .int .i64 t.g, .int .i64 t.y, .bool t.f1, .bool t.f2, .bool t.f3] 93))
  have X1 := Lib.hid (Blk.new w1 #[.int .i64 z, .int .i64 p, .int .i64 t.g, .int .i64 t.y, .bool t.f1, .bool t.f2, .bool t.f3] 93)
  clear H r1 k1 K0
  have HS := Lib.hid (fun w => isSca_any z p t.g t.y n t.f1 t.f2 t.f3 w n0 n1 n2)
  go_wp2_with fail
  refine (HS.out _).mono ?_
  rw [HB.out]
  rintro e w2 ⟨rfl, b2⟩
  have K2 := Lib.hid (K1.out.keep b2)
  have X2 := Lib.hid (X1.out.keep b2)
  clear b2 K1 X1 HS
  have hw : IntKind.i64.wrap (p + n) = p + n := IntWalk.i64_in _ (by omega)
  obtain ⟨S2, C2, M2, Z2⟩ := K2.out.is
  obtain ⟨a, c13, hq⟩ := setField_co (C2.keep (below_drew w2)) x (p + n) v (by omega) (by omega) (by have := O.out.x0; omega) HV.out
  have HQ := Lib.hid hq
  have M2 := Lib.hid M2
  have Z2 := Lib.hid Z2
  obtain ⟨x0, x1, x2', x3, x4, x5, x6, xf⟩ := X2.out.seven
  clear C2 hq X2
  go_wp2
  go_still_tail 10, (by kernel_rfl)
  change wpList _ _ _ _ _ w2.drew
  clear c13 x0 x1 x2' x3 x4 x5 x6 xf
  go_wp2_with fail
  refine HQ.out.mono ?_
  rintro e w3 ⟨rfl, r3⟩
  have RE := Lib.hid ((K2.out.keep (below_drew w2)).after (M2.out.post (below_drew w2)) Z2.out r3).1.done
  clear HQ r3 M2 Z2 K2
  go_wp2
  go_ret
  exact ⟨rfl, RE.out⟩

set_option maxHeartbeats 2000000 in
theorem shape_wrong {pv : Value} (h E : Int) (w : World) (H : Wrong pv h E w) :
    Calls Tryz.prog 34 #[pv, .int .i64 h] w fun e w' => e = .returned (.tuple #[.int .i64 0, .int .i64 0, .int .i64 E]) ∧ Below w.heap.size w w' := by
  have H := Lib.hid H
  unfold Wrong at H
  go_enter Tryz.func34, Tryz.ntmps34
  go_wp2_with fail
  refine H.out.mono ?_
  rintro e w1 ⟨rfl, b1⟩
  have B1 := Lib.hid (b1.alloc b1.size hdO).drew
  clear b1 H
  go_wp2
  go_region
  all_goals
    go_wp2
    refine bodyPost_ret (results_tmp3 rfl _ _ _) rfl ?_
    exact ⟨rfl, B1.out⟩

set_option maxHeartbeats 4000000 in
theorem shape_yes (hC : Cr w b S s) (o : Ob s h x z p t) :
    Calls Tryz.prog 34 #[ptr b, .int .i64 h] w fun e w' => e = .returned (.tuple #[.int .i64 p, .int .i64 (z - p), .int .i64 0]) ∧ CoR w b S s w' := by
  have K0 := Lib.hid hC.way
  have H := Lib.hid (held_ob hC o)
  have N := o.nums
  have O := Lib.hid o
  obtain ⟨n0, n1, n2⟩ := N
  clear hC o
  go_enter Tryz.func34, Tryz.ntmps34
  go_wp2_with fail
  refine H.out.mono ?_
  rintro e w1 ⟨rfl, r1⟩
  have k1 := (K0.out.after (Mv.of_below (Below.refl _ _)) (fun _ e => e.elim) r1).1
  have K1 := Lib.hid (k1.box (.cells #[.int .i64 z, .int .i64 p, .int .i64 t.g, .int .i64 t.y, .bool t.f1, .bool t.f2, .bool t.f3] 93))
  have X1 := Lib.hid (Blk.new w1 #[.int .i64 z, .int .i64 p, .int .i64 t.g, .int .i64 t.y, .bool t.f1, .bool t.f2, .bool t.f3] 93)
  clear H r1 k1 K0
  have hw : IntKind.i64.wrap (z - p) = z - p := IntWalk.i64_in _ (by omega)
  go_wp2
  go_region
  all_goals
    go_wp2
    refine bodyPost_ret (results_tmp3 rfl _ _ _) rfl ?_
    exact ⟨rfl, (K1.out.keep (below_drew _)).done⟩

/-- What handle says where there is no such handle. -/
def NoH (pv : Value) (h E : Int) (w : World) : Prop := Calls Tryz.prog 85 #[pv, .int .i64 h] w fun e w' => e = .returned (.tuple #[.int .i64 0, .int .i64 E]) ∧ w = w'
theorem noH_none (h : Int) (w : World) : NoH (.pointer Option.none) h 1 w := handle_none h w
theorem noH_no (hC : Cr w b S s) (e : s.has h = false) : NoH (ptr b) h 3 w := by
  have H := handle_any hC h
  rwa [(Co.has_no e).2.1, (Co.has_no e).2.2] at H
theorem hand_yes (hC : Cr w b S s) (e : s.has h = true) :
    Calls Tryz.prog 85 #[ptr b, .int .i64 h] w fun e w' => e = .returned (.tuple #[.int .i64 (s.at_ h), .int .i64 0]) ∧ w = w' := by
  have H := handle_any hC h
  rwa [Co.hE_yes e] at H

set_option maxHeartbeats 1000000 in
theorem clear_no {pv : Value} (h E : Int) (hE : E ≠ 0) (w : World) (H : NoH pv h E w) :
    Calls Tryz.prog 44 #[pv, .int .i64 h] w fun e w' => e = .returned (.int .i64 E) ∧ w = w' := by
  have H := Lib.hid H
  unfold NoH at H
  go_enter Tryz.func44, Tryz.ntmps44
  go_wp2_with fail
  refine H.out.mono ?_
  rintro e w1 ⟨rfl, rfl⟩
  clear H
  go_wp2
  go_ret
  exact ⟨rfl, rfl⟩

set_option maxHeartbeats 1000000 in
theorem coCopy_no {pv : Value} (t f E : Int) (hE : E ≠ 0) (w : World) (H : NoH pv f E w) :
    Calls Tryz.prog 42 #[pv, .int .i64 t, .int .i64 f] w fun e w' => e = .returned (.int .i64 E) ∧ w = w' := by
  have H := Lib.hid H
  unfold NoH at H
  go_enter Tryz.func42, Tryz.ntmps42
  go_wp2_with fail
  refine H.out.mono ?_
  rintro e w1 ⟨rfl, rfl⟩
  clear H
  go_wp2
  go_ret
  exact ⟨rfl, rfl⟩

set_option maxHeartbeats 1000000 in
theorem same_no {pv : Value} (a c E : Int) (hE : E ≠ 0) (w : World) (H : NoH pv a E w) :
    Calls Tryz.prog 43 #[pv, .int .i64 a, .int .i64 c] w fun e w' => e = .returned (.tuple #[.bool false, .int .i64 E]) ∧ w = w' := by
  have H := Lib.hid H
  unfold NoH at H
  go_enter Tryz.func43, Tryz.ntmps43
  go_wp2_with fail
  refine H.out.mono ?_
  rintro e w1 ⟨rfl, rfl⟩
  clear H
  go_wp2
  go_ret2
  exact ⟨rfl, rfl⟩

set_option maxHeartbeats 1000000 in
theorem nil_no {pv : Value} (h E : Int) (hE : E ≠ 0) (w : World) (H : NoH pv h E w) :
    Calls Tryz.prog 36 #[pv, .int .i64 h] w fun e w' => e = .returned (.tuple #[.bool false, .int .i64 E]) ∧ w = w' := by
  have H := Lib.hid H
  unfold NoH at H
  go_enter Tryz.func36, Tryz.ntmps36
  go_wp2_with fail
  refine H.out.mono ?_
  rintro e w1 ⟨rfl, rfl⟩
  clear H
  go_wp2
  go_ret2
  exact ⟨rfl, rfl⟩

set_option maxHeartbeats 2000000 in
theorem clear_yes (hC : Cr w b S s) (e0 : s.has h = true) :
    Calls Tryz.prog 44 #[ptr b, .int .i64 h] w fun e w' => e = .returned (.int .i64 0) ∧ CoR w b S (s.put (s.hs.set h.toNat 0)) w' := by
  have H := Lib.hid (hand_yes hC e0)
  obtain ⟨i, hi, hl, _, _⟩ := Co.has_yes e0
  obtain ⟨t, c18, ht⟩ := tset_co hC i hl 0
  rw [← hi] at ht
  rw [show h.toNat = i by omega]
  have HT := Lib.hid ht
  clear hC e0 hi hl ht
  go_enter Tryz.func44, Tryz.ntmps44
  go_wp2_with fail
  refine H.out.mono ?_
  rintro e w1 ⟨rfl, rfl⟩
  clear H
  go_wp2_with fail
  refine HT.out.mono ?_
  rintro e w2 ⟨rfl, r2⟩
  have R2 := Lib.hid r2
  clear HT r2 c18
  go_wp2
  go_ret
  exact ⟨rfl, R2.out⟩

set_option maxHeartbeats 2000000 in
theorem coCopy_yes (hC : Cr w b S s) (f : Int) (e0 : s.has f = true) (e1 : s.has h = true) :
    Calls Tryz.prog 42 #[ptr b, .int .i64 h, .int .i64 f] w fun e w' => e = .returned (.int .i64 0) ∧ CoR w b S (s.put (s.hs.set h.toNat (s.at_ f))) w' := by
  have H := Lib.hid (hand_yes hC e0)
  obtain ⟨i, hi, hl, _, _⟩ := Co.has_yes e1
  obtain ⟨t, c18, ht⟩ := tset_co hC i hl (s.at_ f)
  rw [← hi] at ht
  rw [show h.toNat = i by omega]
  have HT := Lib.hid ht
  clear hC e0 hi hl ht e1
  generalize s.at_ f = x at *
  go_enter Tryz.func42, Tryz.ntmps42
  go_wp2_with fail
  refine H.out.mono ?_
  rintro e w1 ⟨rfl, rfl⟩
  clear H
  go_wp2_with fail
  refine HT.out.mono ?_
  rintro e w2 ⟨rfl, r2⟩
  have R2 := Lib.hid r2
  clear HT r2 c18
  go_wp2
  go_ret
  exact ⟨rfl, R2.out⟩

set_option maxHeartbeats 2000000 in
theorem coCopy_to (hC : Cr w b S s) (f : Int) (e0 : s.has f = true) (e1 : s.has h = false) :
    Calls Tryz.prog 42 #[ptr b, .int .i64 h, .int .i64 f] w fun e w' => e = .returned (.int .i64 3) ∧ w = w' := by
  have H := Lib.hid (hand_yes hC e0)
  obtain ⟨t, c18, ht⟩ := tset_no hC h (s.at_ f) (Co.has_no e1).1
  have HT := Lib.hid ht
  clear hC e0 ht e1
  generalize s.at_ f = x at *
  go_enter Tryz.func42, Tryz.ntmps42
  go_wp2_with fail
  refine H.out.mono ?_
  rintro e w1 ⟨rfl, rfl⟩
  clear H
  go_wp2_with fail
  refine HT.out.mono ?_
  rintro e w2 ⟨rfl, rfl⟩
  clear HT c18
  go_wp2
  go_ret
  exact ⟨rfl, rfl⟩

set_option maxHeartbeats 2000000 in
theorem same_to (hC : Cr w b S s) (f : Int) (e0 : s.has h = true) (e1 : s.has f = false) :
    Calls Tryz.prog 43 #[ptr b, .int .i64 h, .int .i64 f] w fun e w' => e = .returned (.tuple #[.bool false, .int .i64 3]) ∧ w = w' := by
  have H := Lib.hid (hand_yes hC e0)
  have G := noH_no hC e1
  unfold NoH at G
  have G := Lib.hid G
  clear hC e0 e1
  generalize s.at_ h = x at *
  go_enter Tryz.func43, Tryz.ntmps43
  go_wp2_with fail
  refine H.out.mono ?_
  rintro e w1 ⟨rfl, rfl⟩
  clear H
  go_wp2_with fail
  refine G.out.mono ?_
  rintro e w2 ⟨rfl, rfl⟩
  clear G
  go_wp2
  go_ret2
  exact ⟨rfl, rfl⟩

set_option maxHeartbeats 2000000 in
theorem same_yes (hC : Cr w b S s) (f : Int) (e0 : s.has h = true) (e1 : s.has f = true) :
    Calls Tryz.prog 43 #[ptr b, .int .i64 h, .int .i64 f] w fun e w' => e = .returned (.tuple #[.bool (decide (s.at_ h = s.at_ f)), .int .i64 0]) ∧ w = w' := by
  have H := Lib.hid (hand_yes hC e0)
  have G := Lib.hid (hand_yes hC e1)
  clear hC e0 e1
  generalize s.at_ h = x at *
  generalize s.at_ f = y at *
  go_enter Tryz.func43, Tryz.ntmps43
  go_wp2_with fail
  refine H.out.mono ?_
  rintro e w1 ⟨rfl, rfl⟩
  clear H
  go_wp2_with fail
  refine G.out.mono ?_
  rintro e w2 ⟨rfl, rfl⟩
  clear G
  go_wp2
  go_ret2
  exact ⟨by by_cases e : x = y <;> simp [e], rfl⟩

set_option maxHeartbeats 2000000 in
theorem nil_yes (hC : Cr w b S s) (e0 : s.has h = true) :
    Calls Tryz.prog 36 #[ptr b, .int .i64 h] w fun e w' => e = .returned (.tuple #[.bool (decide (s.at_ h = 0)), .int .i64 0]) ∧ w = w' := by
  have H := Lib.hid (hand_yes hC e0)
  clear hC e0
  generalize s.at_ h = x at *
  go_enter Tryz.func36, Tryz.ntmps36
  go_wp2_with fail
  refine H.out.mono ?_
  rintro e w1 ⟨rfl, rfl⟩
  clear H
  go_wp2
  go_ret2
  exact ⟨by by_cases e : x = 0 <;> simp [e], rfl⟩

end
end Go.Proofs.YthmhehehomieiaaGreat

/- Contracts of Get, Set where no cycle goes on. -/
namespace Go.Proofs.YthmhehehomieiaaGreat
open Go.RowKit

section
variable {w : World} {b : Nat} {S : Nat → Prop} {s : Co} {h x z p : Int} {t : HdP}

set_option maxHeartbeats 2000000 in
set_option maxRecDepth 100000 in
theorem get_to (hC : Cr w b S s) (o : Ob s h x z p t) (d n : Int) (e1 : s.has d = false) :
    Calls Tryz.prog 35 #[ptr b, .int .i64 d, .int .i64 h, .int .i64 n] w fun e w' => e = .returned (.int .i64 3) ∧ CoR w b S s w' := by
  have E1 := Lib.hid e1
  clear e1
  have K0 := Lib.hid hC.way
  have H := Lib.hid (held_ob hC o)
  have N := o.nums
  have O := Lib.hid o
  obtain ⟨n0, n1, n2⟩ := N
  clear hC o
  go_enter Tryz.func35, Tryz.ntmps35
  go_wp2_with fail
  refine H.out.mono ?_
  rintro e w1 ⟨rfl, r1⟩
  have k1 := (K0.out.after (Mv.of_below (Below.refl _ _)) (fun _ e => e.elim) r1).1
  have K1 := Lib.hid (k1.box (.cells #[.int .i64 z, .int .i64 p, .int .i64 t.g, .int .i64 t.y, .bool t.f1, .bool t.f2, .bool t.f3] 93))
  have X1 := Lib.hid (Blk.new w1 #[.int .i64 z, .int .i64 p, .int .i64 t.g, .int .i64 t.y, .bool t.f1, .bool t.f2, .bool t.f3] 93)
  clear H r1 k1 K0
  have HG := Lib.hid (fun S (k : Cr (w1.alloc (.cells #[.int .i64 z, .int .i64 p, .int .i64 t.g, .int .i64 t.y, .bool t.f1, .bool t.f2, .bool t.f3] 93)) b S s) => show _ from noH_no k E1.out)
  obtain ⟨S1, C1, _⟩ := K1.out.cr
  have G := Lib.hid (HG.out S1 C1)
  clear C1 HG
  go_wp2_with fail
  refine G.out.mono ?_
  rintro e w2 ⟨rfl, rfl⟩
  clear G
  go_wp2
  go_ret
  exact ⟨rfl, K1.out.done⟩

set_option maxHeartbeats 2000000 in
set_option maxRecDepth 100000 in
theorem get_field (hC : Cr w b S s) (o : Ob s h x z p t) (d n : Int) (e1 : s.has d = true) (hb : refB p n = false) :
    Calls Tryz.prog 35 #[ptr b, .int .i64 d, .int .i64 h, .int .i64 n] w fun e w' => e = .returned (.int .i64 5) ∧ CoR w b S s w' := by
  have E1 := Lib.hid e1
  have HB := Lib.hid hb
  clear e1 hb
  have K0 := Lib.hid hC.way
  have H := Lib.hid (held_ob hC o)
  have N := o.nums
  have O := Lib.hid o
  obtain ⟨n0, n1, n2⟩ := N
  clear hC o
  go_enter Tryz.func35, Tryz.ntmps35
  go_wp2_with fail
  refine H.out.mono ?_
  rintro e w1 ⟨rfl, r1⟩
  have k1 := (K0.out.after (Mv.of_below (Below.refl _ _)) (fun _ e => e.elim) r1).1
  have K1 := Lib.hid (k1.box (.cells #[.int .i64 z, .int .i64 p, .int .i64 t.g, .int .i64 t.y, .bool t.f1, .bool t.f2, .bool t.f3] 93))
  have X1 := Lib.hid (Blk.new w1 #[.int .i64 z, .int .i64 p, .int .i64 t.g, .int .i64 t.y, .bool t.f1, .bool t.f2, .bool t.f3] 93)
  clear H r1 k1 K0
  have HG := Lib.hid (fun S (k : Cr (w1.alloc (.cells #[.int .i64 z, .int .i64 p, .int .i64 t.g, .int .i64 t.y, .bool t.f1, .bool t.f2, .bool t.f3] 93)) b S s) => show _ from hand_yes k E1.out)
  obtain ⟨S1, C1, _⟩ := K1.out.cr
  have G := Lib.hid (HG.out S1 C1)
  clear C1 HG
  go_wp2_with fail
  refine G.out.mono ?_
  rintro e w2 ⟨rfl, rfl⟩
  clear G
  have HS := Lib.hid (fun w => isRef_any z p t.g t.y n t.f1 t.f2 t.f3 w)
  go_wp2_with fail
  refine (HS.out _).mono ?_
  rw [HB.out]
  rintro e w2 ⟨rfl, b2⟩
  have K2 := Lib.hid (K1.out.keep b2)
  clear b2 K1 X1 HS
  go_wp2
  go_ret
  exact ⟨rfl, K2.out.done⟩

set_option maxHeartbeats 2000000 in
set_option maxRecDepth 100000 in
theorem set_to (hC : Cr w b S s) (o : Ob s h x z p t) (n f : Int) (e1 : s.has f = false) :
    Calls Tryz.prog 41 #[ptr b, .int .i64 h, .int .i64 n, .int .i64 f] w fun e w' => e = .returned (.int .i64 3) ∧ CoR w b S s w' := by
  have E1 := Lib.hid e1
  clear e1
  have K0 := Lib.hid hC.way
  have H := Lib.hid (held_ob hC o)
  have N := o.nums
  have O := Lib.hid o
  obtain ⟨n0, n1, n2⟩ := N
  clear hC o
  go_enter Tryz.func41, Tryz.ntmps41
  go_wp2_with fail
  refine H.out.mono ?_
  rintro e w1 ⟨rfl, r1⟩
  have k1 := (K0.out.after (Mv.of_below (Below.refl _ _)) (fun _ e => e.elim) r1).1
  have K1 := Lib.hid (k1.box (.cells #[.int .i64 z, .int .i64 p, .int .i64 t.g, .int .i64 t.y, .bool t.f1, .bool t.f2, .bool t.f3] 93))
  have X1 := Lib.hid (Blk.new w1 #[.int .i64 z, .int .i64 p, .int .i64 t.g, .int .i64 t.y, .bool t.f1, .bool t.f2, .bool t.f3] 93)
  clear H r1 k1 K0
  have HG := Lib.hid (fun S (k : Cr (w1.alloc (.cells #[.int .i64 z, .int .i64 p, .int .i64 t.g, .int .i64 t.y, .bool t.f1, .bool t.f2, .bool t.f3] 93)) b S s) => show _ from noH_no k E1.out)
  obtain ⟨S1, C1, _⟩ := K1.out.cr
  have G := Lib.hid (HG.out S1 C1)
  clear C1 HG
  go_wp2_with fail
  refine G.out.mono ?_
  rintro e w2 ⟨rfl, rfl⟩
  clear G
  go_wp2
  go_ret
  exact ⟨rfl, K1.out.done⟩

set_option maxHeartbeats 2000000 in
set_option maxRecDepth 100000 in
theorem set_field (hC : Cr w b S s) (o : Ob s h x z p t) (n f : Int) (e1 : s.has f = true) (hb : refB p n = false) :
    Calls Tryz.prog 41 #[ptr b, .int .i64 h, .int .i64 n, .int .i64 f] w fun e w' => e = .returned (.int .i64 5) ∧ CoR w b S s w' := by
  have E1 := Lib.hid e1
  have HB := Lib.hid hb
  clear e1 hb
  have K0 := Lib.hid hC.way
  have H := Lib.hid (held_ob hC o)
  have N := o.nums
  have O := Lib.hid o
  obtain ⟨n0, n1, n2⟩ := N
  clear hC o
  go_enter Tryz.func41, Tryz.ntmps41
  go_wp2_with fail
  refine H.out.mono ?_
  rintro e w1 ⟨rfl, r1⟩
  have k1 := (K0.out.after (Mv.of_below (Below.refl _ _)) (fun _ e => e.elim) r1).1
  have K1 := Lib.hid (k1.box (.cells #[.int .i64 z, .int .i64 p, .int .i64 t.g, .int .i64 t.y, .bool t.f1, .bool t.f2, .bool t.f3] 93))
  have X1 := Lib.hid (Blk.new w1 #[.int .i64 z, .int .i64 p, .int .i64 t.g, .int .i64 t.y, .bool t.f1, .bool t.f2, .bool t.f3] 93)
  clear H r1 k1 K0
  have HG := Lib.hid (fun S (k : Cr (w1.alloc (.cells #[.int .i64 z, .int .i64 p, .int .i64 t.g, .int .i64 t.y, .bool t.f1, .bool t.f2, .bool t.f3] 93)) b S s) => show _ from hand_yes k E1.out)
  obtain ⟨S1, C1, _⟩ := K1.out.cr
  have G := Lib.hid (HG.out S1 C1)
  clear C1 HG
  go_wp2_with fail
  refine G.out.mono ?_
  rintro e w2 ⟨rfl, rfl⟩
  clear G
  have HS := Lib.hid (fun w => isRef_any z p t.g t.y n t.f1 t.f2 t.f3 w)
  go_wp2_with fail
  refine (HS.out _).mono ?_
  rw [HB.out]
  rintro e w2 ⟨rfl, b2⟩
  have K2 := Lib.hid (K1.out.keep b2)
  clear b2 K1 X1 HS
  go_wp2
  go_ret
  exact ⟨rfl, K2.out.done⟩

set_option maxHeartbeats 8000000 in
set_option maxRecDepth 100000 in
theorem get_yes (hC : Cr w b S s) (o : Ob s h x z p t) (d n q : Int) (e1 : s.has d = true) (hb : refB p n = true) (hq : s.ws[(x + (2 + n)).toNat]? = some q) (hw : wrap64 q = q)
    (hf : inH (hAt s.cf.nu 1 (!s.yn)) s.yv q = false) (hp : s.ph ≠ 1) :
    Calls Tryz.prog 35 #[ptr b, .int .i64 d, .int .i64 h, .int .i64 n] w fun e w' => e = .returned (.int .i64 0) ∧ CoR w b S (s.put (s.hs.set d.toNat q)) w' := by
  have E1 := Lib.hid e1
  have HB := Lib.hid hb
  obtain ⟨m0, m1⟩ := refB_iff.1 hb
  have HV := Lib.hid hq
  have HW := Lib.hid hw
  have HF := Lib.hid hf
  have HP := Lib.hid hp
  clear e1 hb hq hw hf hp
  have K0 := Lib.hid hC.way
  have H := Lib.hid (held_ob hC o)
  have N := o.nums
  have O := Lib.hid o
  obtain ⟨n0, n1, n2⟩ := N
  clear hC o
  go_enter Tryz.func35, Tryz.ntmps35
  go_wp2_with fail
  refine H.out.mono ?_
  rintro e w1 ⟨rfl, r1⟩
  have k1 := (K0.out.after (Mv.of_below (Below.refl _ _)) (fun _ e => e.elim) r1).1
  have K1 := Lib.hid (k1.box (.cells #[.int .i64 z, .int .i64 p, .int .i64 t.g, .int .i64 t.y, .bool t.f1, .bool t.f2, .bool t.f3] 93))
  have X1 := Lib.hid (Blk.new w1 #[.int .i64 z, .int .i64 p, .int .i64 t.g, .int .i64 t.y, .bool t.f1, .bool t.f2, .bool t.f3] 93)
  clear H r1 k1 K0
  have HG := Lib.hid (fun S (k : Cr (w1.alloc (.cells #[.int .i64 z, .int .i64 p, .int .i64 t.g, .int .i64 t.y, .bool t.f1, .bool t.f2, .bool t.f3] 93)) b S s) => show _ from hand_yes k E1.out)
  obtain ⟨S1, C1, _⟩ := K1.out.cr
  have G := Lib.hid (HG.out S1 C1)
  clear C1 HG
  go_wp2_with fail
  refine G.out.mono ?_
  rintro e w2 ⟨rfl, rfl⟩
  clear G
  have HS := Lib.hid (fun w => isRef_any z p t.g t.y n t.f1 t.f2 t.f3 w)
  go_wp2_with fail
  refine (HS.out _).mono ?_
  rw [HB.out]
  rintro e w2 ⟨rfl, b2⟩
  have K2 := Lib.hid (K1.out.keep b2)
  clear b2 K1 X1 HS
  obtain ⟨S2, C2, M2, Z2⟩ := K2.out.is
  obtain ⟨a, c13, hq⟩ := field_co C2 x n q (by omega) (by omega) (by have := O.out.x0; omega) HV.out
  have HQ := Lib.hid hq
  have M2 := Lib.hid M2
  have Z2 := Lib.hid Z2
  clear C2 hq
  go_wp2_with fail
  refine HQ.out.mono ?_
  rintro e w3 ⟨rfl, r3⟩
  have K3 := Lib.hid (K2.out.after M2.out Z2.out r3).1
  clear HQ r3 M2 Z2 K2 c13
  obtain ⟨S3, C3, _⟩ := K3.out.cr
  have HM := move_of q w3 (leaving_no C3 q HF.out)
  have HM := Lib.hid HM
  clear C3
  have hw := HW.out
  go_wp2_with fail
  refine HM.out.mono ?_
  rintro e w4 ⟨rfl, b4⟩
  have K4 := Lib.hid (K3.out.keep b4)
  clear HM b4 K3
  obtain ⟨S4, C4, M4, Z4⟩ := K4.out.is
  have HK := Lib.hid (mark_no C4 q HP.out)
  obtain ⟨i, hi, hl, _, _⟩ := Co.has_yes E1.out
  obtain ⟨t', c18, ht⟩ := tset_co C4 i hl q
  rw [← hi] at ht
  rw [show i = d.toNat by omega] at ht
  have HT := Lib.hid ht
  have M4 := Lib.hid M4
  have Z4 := Lib.hid Z4
  clear C4 ht hi hl
  go_wp2_with fail
  refine HK.out.mono ?_
  rintro e w5 ⟨rfl, rfl⟩
  clear HK
  go_wp2_with fail
  refine HT.out.mono ?_
  rintro e w5 ⟨rfl, r5⟩
  have RE := Lib.hid (K4.out.after M4.out Z4.out r5).1.done
  clear HT r5 M4 Z4 K4 c18
  go_wp2
  go_ret
  exact ⟨rfl, RE.out⟩

set_option maxHeartbeats 8000000 in
set_option maxRecDepth 100000 in
theorem set_yes (hC : Cr w b S s) (o : Ob s h x z p t) (n f q : Int) (e1 : s.has f = true) (eq : s.at_ f = q) (q0 : 0 ≤ q) (q1 : q ≤ 9223372036854775807) (x1 : x ≤ 9223372036854775807) (hb : refB p n = true) (hv : (x + (2 + n)).toNat < s.ws.length)
    (ho : s.oldB x = false) :
    Calls Tryz.prog 41 #[ptr b, .int .i64 h, .int .i64 n, .int .i64 f] w fun e w' => e = .returned (.int .i64 0) ∧ CoR w b S (s.wrote (s.ws.set (x + (2 + n)).toNat q)) w' := by
  have E1 := Lib.hid e1
  have EQ := Lib.hid eq
  have HB := Lib.hid hb
  obtain ⟨m0, m1⟩ := refB_iff.1 hb
  have HV := Lib.hid hv
  have HO := Lib.hid ho
  have X1' := Lib.hid x1
  have hw : IntKind.u64.wrap q = q := by unfold IntKind.wrap IntKind.bits; simp; omega
  clear e1 eq hb hv ho x1
  have K0 := Lib.hid hC.way
  have H := Lib.hid (held_ob hC o)
  have N := o.nums
  have O := Lib.hid o
  obtain ⟨n0, n1, n2⟩ := N
  clear hC o
  go_enter Tryz.func41, Tryz.ntmps41
  go_wp2_with fail
  refine H.out.mono ?_
  rintro e w1 ⟨rfl, r1⟩
  have k1 := (K0.out.after (Mv.of_below (Below.refl _ _)) (fun _ e => e.elim) r1).1
  have K1 := Lib.hid (k1.box (.cells #[.int .i64 z, .int .i64 p, .int .i64 t.g, .int .i64 t.y, .bool t.f1, .bool t.f2, .bool t.f3] 93))
  have X1 := Lib.hid (Blk.new w1 #[.int .i64 z, .int .i64 p, .int .i64 t.g, .int .i64 t.y, .bool t.f1, .bool t.f2, .bool t.f3] 93)
  clear H r1 k1 K0
  have HG := Lib.hid (fun S (k : Cr (w1.alloc (.cells #[.int .i64 z, .int .i64 p, .int .i64 t.g, .int .i64 t.y, .bool t.f1, .bool t.f2, .bool t.f3] 93)) b S s) => by have := hand_yes k E1.out; rw [EQ.out] at this; exact this)
  obtain ⟨S1, C1, _⟩ := K1.out.cr
  have G := Lib.hid (HG.out S1 C1)
  clear C1 HG
  go_wp2_with fail
  refine G.out.mono ?_
  rintro e w2 ⟨rfl, rfl⟩
  clear G
  have HS := Lib.hid (fun w => isRef_any z p t.g t.y n t.f1 t.f2 t.f3 w)
  go_wp2_with fail
  refine (HS.out _).mono ?_
  rw [HB.out]
  rintro e w2 ⟨rfl, b2⟩
  have K2 := Lib.hid (K1.out.keep b2)
  clear b2 K1 X1 HS
  obtain ⟨S2, C2, M2, Z2⟩ := K2.out.is
  obtain ⟨a, c13, hq⟩ := setField_co C2 x n q (by omega) (by omega) (by have := O.out.x0; omega) HV.out
  have HQ := Lib.hid hq
  have M2 := Lib.hid M2
  have Z2 := Lib.hid Z2
  clear C2 hq
  go_wp2_with fail
  refine HQ.out.mono ?_
  rintro e w3 ⟨rfl, r3⟩
  have K3 := Lib.hid (K2.out.after M2.out Z2.out r3).1
  clear HQ r3 M2 Z2 K2 c13
  obtain ⟨S3, C3, _⟩ := K3.out.cr
  have HY := Lib.hid (young_any C3 q)
  clear C3
  go_wp2_with fail
  refine HY.out.mono ?_
  generalize (s.wrote (s.ws.set (x + (2 + n)).toNat q)).youngB q = yb
  rintro e w4 ⟨rfl, b4⟩
  have K4 := Lib.hid (K3.out.keep b4)
  clear HY b4 K3
  cases yb
  · go_wp2
    go_ret
    exact ⟨rfl, K4.out.done⟩
  · obtain ⟨S4, C4, _⟩ := K4.out.cr
    have HN := Lib.hid (note_no C4 x (by have := O.out.x0; omega) X1'.out HO.out)
    clear C4
    go_wp2_with fail
    refine HN.out.mono ?_
    rintro e w5 ⟨rfl, b5⟩
    have K5 := Lib.hid (K4.out.keep b5)
    clear HN b5 K4
    go_wp2
    go_ret
    exact ⟨rfl, K5.out.done⟩
end
end Go.Proofs.YthmhehehomieiaaGreat

/- Texts of the layers below, joined: CoY CoZ CpB MdG MtD MtE GtD MtF. -/
import Derived.Test.YthmhehehomieiaaGreatJoinE
import Derived.Deep.RegionHeld3
import Derived.Deep.DeepCutAuto
import Derived.Deep.CutBlock
import Derived.StillTailTactics

/- The statements' do: an entry of a script, by whatever the core's call comes to. -/
namespace Go.Proofs.YthmhehehomieiaaGreat
open Go.RowKit

/-- Where do stands ahead of the call: the entry and two answers lie in boxes. -/
abbrev doW (w : World) (k a b c v : Int) : World := ((w.alloc (stB k a b c v)).alloc anB).alloc anB
abbrev anL : Array Value := #[.int .i64 0, .bool false, .int .i64 0, .int .u64 0]

theorem doW_below (w : World) (k a b c v : Int) : Below w.heap.size w (doW w k a b c v) := (((Below.refl _ w).alloc (Nat.le_refl _) _).alloc (by simp) _).alloc (by simp; omega) _
theorem doW_size (w : World) (k a b c v : Int) : (doW w k a b c v).heap.size = w.heap.size + 3 := by simp
theorem doW_boxes (w : World) (k a b c v : Int) : Blk (doW w k a b c v) (w.heap.size + 1) anL 55 ∧ Blk (doW w k a b c v) (w.heap.size + 2) anL 55 :=
  ⟨by simpa using (Blk.new (w.alloc (stB k a b c v)) anL 55).alloc anB, by simpa using Blk.new ((w.alloc (stB k a b c v)).alloc anB) anL 55⟩

/-- The call leaves the answers' boxes as they are. -/
def Leaves (w : World) (R : World → Prop) : Prop := ∀ w', R w' → Blk w' (w.heap.size + 1) anL 55 ∧ Blk w' (w.heap.size + 2) anL 55

/-- What stands behind do: the answers' boxes have been written to since. -/
def DoE (w : World) (R : World → Prop) (w' : World) : Prop := ∃ w4, R w4 ∧ Frm (fun k => k = w.heap.size + 1 ∨ k = w.heap.size + 2) w4 w'

theorem Blk.four {w : World} {b : Nat} {t : TypeId} {v0 v1 v2 v3 : Value} (h : Blk w b #[v0, v1, v2, v3] t) :
    w.cell? ⟨b, 0, none⟩ = some v0 ∧ w.cell? ⟨b, 1, none⟩ = some v1 ∧ w.cell? ⟨b, 2, none⟩ = some v2 ∧ w.cell? ⟨b, 3, none⟩ = some v3 ∧ (∀ i, w.frozen? ⟨b, i, none⟩ = false) := ⟨h.cell 0, h.cell 1, h.cell 2, h.cell 3, h.frozen⟩

theorem frm_cell {T : Nat → Prop} {w w' : World} (f : Frm T w w') (b i : Nat) (hb : T b) (v : Value) : Frm T w (w'.setCell ⟨b, i, none⟩ v) := f.setCell (p := ⟨b, i, none⟩) (fun _ => hb) v

set_option maxHeartbeats 4000000 in
set_option maxRecDepth 100000 in
theorem do_Make {pv : Value} (a b c v : Int) (E : Int) (w : World) (R : World → Prop) (hl : Leaves w R)
    (H : Calls Tryz.prog 33 #[pv, .int .i64 a, .int .i64 b, .int .i64 c] (doW w 1 a b c v) fun e w' => e = .returned (.int .i64 E) ∧ R w') :
    Calls Tryz.prog 26 #[pv, sgV 1 a b c v] w fun e w' => e = .returned (anV E false 0 0) ∧ DoE w R w' := by
  have H := Lib.hid H
  have HL := Lib.hid hl
  clear hl
  go_enter Tryz.func26, Tryz.ntmps26
  go_wp2_with fail
  refine H.out.mono ?_
  rintro e w4 ⟨rfl, r⟩
  have x := HL.out _ r
  obtain ⟨c0, c1, c2, c3, cf⟩ := x.1.four
  obtain ⟨d0, d1, d2, d3, df⟩ := x.2.four
  have HR := Lib.hid r
  have HX := Lib.hid x
  clear r x H HL
  go_wp2
  refine bodyPost_ret (v := anV E false 0 0) (by simp [results, Tryz.results26, go_sem, c0, c1, c2, c3]) rfl ⟨rfl, _, HR.out, ?_⟩
  refine frm_cell (frm_cell (frm_cell (frm_cell ?_ _ _ (.inl rfl) _) _ _ (.inl rfl) _) _ _ (.inl rfl) _) _ _ (.inl rfl) _
  exact frm_cell (Frm.refl _ _) _ _ (.inr rfl) _

set_option maxHeartbeats 4000000 in
set_option maxRecDepth 100000 in
theorem do_Get {pv : Value} (a b c v : Int) (E : Int) (w : World) (R : World → Prop) (hl : Leaves w R)
    (H : Calls Tryz.prog 35 #[pv, .int .i64 a, .int .i64 b, .int .i64 c] (doW w 2 a b c v) fun e w' => e = .returned (.int .i64 E) ∧ R w') :
    Calls Tryz.prog 26 #[pv, sgV 2 a b c v] w fun e w' => e = .returned (anV E false 0 0) ∧ DoE w R w' := by
  have H := Lib.hid H
  have HL := Lib.hid hl
  clear hl
  go_enter Tryz.func26, Tryz.ntmps26
  go_wp2_with fail
  refine H.out.mono ?_
  rintro e w4 ⟨rfl, r⟩
  have x := HL.out _ r
  obtain ⟨c0, c1, c2, c3, cf⟩ := x.1.four
  obtain ⟨d0, d1, d2, d3, df⟩ := x.2.four
  have HR := Lib.hid r
  have HX := Lib.hid x
  clear r x H HL
  go_wp2
  refine bodyPost_ret (v := anV E false 0 0) (by simp [results, Tryz.results26, go_sem, c0, c1, c2, c3]) rfl ⟨rfl, _, HR.out, ?_⟩
  refine frm_cell (frm_cell (frm_cell (frm_cell ?_ _ _ (.inl rfl) _) _ _ (.inl rfl) _) _ _ (.inl rfl) _) _ _ (.inl rfl) _
  exact frm_cell (Frm.refl _ _) _ _ (.inr rfl) _

set_option maxHeartbeats 4000000 in
set_option maxRecDepth 100000 in
theorem do_Set {pv : Value} (a b c v : Int) (E : Int) (w : World) (R : World → Prop) (hl : Leaves w R)
    (H : Calls Tryz.prog 41 #[pv, .int .i64 a, .int .i64 b, .int .i64 c] (doW w 3 a b c v) fun e w' => e = .returned (.int .i64 E) ∧ R w') :
    Calls Tryz.prog 26 #[pv, sgV 3 a b c v] w fun e w' => e = .returned (anV E false 0 0) ∧ DoE w R w' := by
  have H := Lib.hid H
  have HL := Lib.hid hl
  clear hl
  go_enter Tryz.func26, Tryz.ntmps26
  go_wp2_with fail
  refine H.out.mono ?_
  rintro e w4 ⟨rfl, r⟩
  have x := HL.out _ r
  obtain ⟨c0, c1, c2, c3, cf⟩ := x.1.four
  obtain ⟨d0, d1, d2, d3, df⟩ := x.2.four
  have HR := Lib.hid r
  have HX := Lib.hid x
  clear r x H HL
  go_wp2
  refine bodyPost_ret (v := anV E false 0 0) (by simp [results, Tryz.results26, go_sem, c0, c1, c2, c3]) rfl ⟨rfl, _, HR.out, ?_⟩
  refine frm_cell (frm_cell (frm_cell (frm_cell ?_ _ _ (.inl rfl) _) _ _ (.inl rfl) _) _ _ (.inl rfl) _) _ _ (.inl rfl) _
  exact frm_cell (Frm.refl _ _) _ _ (.inr rfl) _

set_option maxHeartbeats 4000000 in
set_option maxRecDepth 100000 in
theorem do_Write {pv : Value} (a b c v : Int) (E : Int) (w : World) (R : World → Prop) (hl : Leaves w R)
    (H : Calls Tryz.prog 40 #[pv, .int .i64 a, .int .i64 b, .int .u64 v] (doW w 5 a b c v) fun e w' => e = .returned (.int .i64 E) ∧ R w') :
    Calls Tryz.prog 26 #[pv, sgV 5 a b c v] w fun e w' => e = .returned (anV E false 0 0) ∧ DoE w R w' := by
  have H := Lib.hid H
  have HL := Lib.hid hl
  clear hl
  go_enter Tryz.func26, Tryz.ntmps26
  go_wp2_with fail
  refine H.out.mono ?_
  rintro e w4 ⟨rfl, r⟩
  have x := HL.out _ r
  obtain ⟨c0, c1, c2, c3, cf⟩ := x.1.four
  obtain ⟨d0, d1, d2, d3, df⟩ := x.2.four
  have HR := Lib.hid r
  have HX := Lib.hid x
  clear r x H HL
  go_wp2
  refine bodyPost_ret (v := anV E false 0 0) (by simp [results, Tryz.results26, go_sem, c0, c1, c2, c3]) rfl ⟨rfl, _, HR.out, ?_⟩
  refine frm_cell (frm_cell (frm_cell (frm_cell ?_ _ _ (.inl rfl) _) _ _ (.inl rfl) _) _ _ (.inl rfl) _) _ _ (.inl rfl) _
  exact frm_cell (Frm.refl _ _) _ _ (.inr rfl) _

set_option maxHeartbeats 4000000 in
set_option maxRecDepth 100000 in
theorem do_Clear {pv : Value} (a b c v : Int) (E : Int) (w : World) (R : World → Prop) (hl : Leaves w R)
    (H : Calls Tryz.prog 44 #[pv, .int .i64 a] (doW w 6 a b c v) fun e w' => e = .returned (.int .i64 E) ∧ R w') :
    Calls Tryz.prog 26 #[pv, sgV 6 a b c v] w fun e w' => e = .returned (anV E false 0 0) ∧ DoE w R w' := by
  have H := Lib.hid H
  have HL := Lib.hid hl
  clear hl
  go_enter Tryz.func26, Tryz.ntmps26
  go_wp2_with fail
  refine H.out.mono ?_
  rintro e w4 ⟨rfl, r⟩
  have x := HL.out _ r
  obtain ⟨c0, c1, c2, c3, cf⟩ := x.1.four
  obtain ⟨d0, d1, d2, d3, df⟩ := x.2.four
  have HR := Lib.hid r
  have HX := Lib.hid x
  clear r x H HL
  go_wp2
  refine bodyPost_ret (v := anV E false 0 0) (by simp [results, Tryz.results26, go_sem, c0, c1, c2, c3]) rfl ⟨rfl, _, HR.out, ?_⟩
  refine frm_cell (frm_cell (frm_cell (frm_cell ?_ _ _ (.inl rfl) _) _ _ (.inl rfl) _) _ _ (.inl rfl) _) _ _ (.inl rfl) _
  exact frm_cell (Frm.refl _ _) _ _ (.inr rfl) _

set_option maxHeartbeats 4000000 in
set_option maxRecDepth 100000 in
theorem do_Copy {pv : Value} (a b c v : Int) (E : Int) (w : World) (R : World → Prop) (hl : Leaves w R)
    (H : Calls Tryz.prog 42 #[pv, .int .i64 a, .int .i64 b] (doW w 7 a b c v) fun e w' => e = .returned (.int .i64 E) ∧ R w') :
    Calls Tryz.prog 26 #[pv, sgV 7 a b c v] w fun e w' => e = .returned (anV E false 0 0) ∧ DoE w R w' := by
  have H := Lib.hid H
  have HL := Lib.hid hl
  clear hl
  go_enter Tryz.func26, Tryz.ntmps26
  go_wp2_with fail
  refine H.out.mono ?_
  rintro e w4 ⟨rfl, r⟩
  have x := HL.out _ r
  obtain ⟨c0, c1, c2, c3, cf⟩ := x.1.four
  obtain ⟨d0, d1, d2, d3, df⟩ := x.2.four
  have HR := Lib.hid r
  have HX := Lib.hid x
  clear r x H HL
  go_wp2
  refine bodyPost_ret (v := anV E false 0 0) (by simp [results, Tryz.results26, go_sem, c0, c1, c2, c3]) rfl ⟨rfl, _, HR.out, ?_⟩
  refine frm_cell (frm_cell (frm_cell (frm_cell ?_ _ _ (.inl rfl) _) _ _ (.inl rfl) _) _ _ (.inl rfl) _) _ _ (.inl rfl) _
  exact frm_cell (Frm.refl _ _) _ _ (.inr rfl) _

set_option maxHeartbeats 4000000 in
set_option maxRecDepth 100000 in
theorem do_Read {pv : Value} (a b c v : Int) (E V : Int) (w : World) (R : World → Prop) (hl : Leaves w R)
    (H : Calls Tryz.prog 37 #[pv, .int .i64 a, .int .i64 b] (doW w 4 a b c v) fun e w' => e = .returned (.tuple #[.int .u64 V, .int .i64 E]) ∧ R w') :
    Calls Tryz.prog 26 #[pv, sgV 4 a b c v] w fun e w' => e = .returned (anV E false 0 V) ∧ DoE w R w' := by
  have H := Lib.hid H
  have HL := Lib.hid hl
  clear hl
  go_enter Tryz.func26, Tryz.ntmps26
  go_wp2_with fail
  refine H.out.mono ?_
  rintro e w4 ⟨rfl, r⟩
  have x := HL.out _ r
  obtain ⟨c0, c1, c2, c3, cf⟩ := x.1.four
  obtain ⟨d0, d1, d2, d3, df⟩ := x.2.four
  have HR := Lib.hid r
  have HX := Lib.hid x
  clear r x H HL
  go_wp2
  refine bodyPost_ret (v := anV E false 0 V) (by simp [results, Tryz.results26, go_sem, c0, c1, c2, c3]) rfl ⟨rfl, _, HR.out, ?_⟩
  refine frm_cell (frm_cell (frm_cell (frm_cell ?_ _ _ (.inl rfl) _) _ _ (.inl rfl) _) _ _ (.inl rfl) _) _ _ (.inl rfl) _
  exact frm_cell (frm_cell (Frm.refl _ _) _ _ (.inr rfl) _) _ _ (.inr rfl) _

set_option maxHeartbeats 4000000 in
set_option maxRecDepth 100000 in
theorem do_Same {pv : Value} (a b c v : Int) (E : Int) (y : Bool) (w : World) (R : World → Prop) (hl : Leaves w R)
    (H : Calls Tryz.prog 43 #[pv, .int .i64 a, .int .i64 b] (doW w 8 a b c v) fun e w' => e = .returned (.tuple #[.bool y, .int .i64 E]) ∧ R w') :
    Calls Tryz.prog 26 #[pv, sgV 8 a b c v] w fun e w' => e = .returned (anV E y 0 0) ∧ DoE w R w' := by
  have H := Lib.hid H
  have HL := Lib.hid hl
  clear hl
  go_enter Tryz.func26, Tryz.ntmps26
  go_wp2_with fail
  refine H.out.mono ?_
  rintro e w4 ⟨rfl, r⟩
  have x := HL.out _ r
  obtain ⟨c0, c1, c2, c3, cf⟩ := x.1.four
  obtain ⟨d0, d1, d2, d3, df⟩ := x.2.four
  have HR := Lib.hid r
  have HX := Lib.hid x
  clear r x H HL
  go_wp2
  refine bodyPost_ret (v := anV E y 0 0) (by simp [results, Tryz.results26, go_sem, c0, c1, c2, c3]) rfl ⟨rfl, _, HR.out, ?_⟩
  refine frm_cell (frm_cell (frm_cell (frm_cell ?_ _ _ (.inl rfl) _) _ _ (.inl rfl) _) _ _ (.inl rfl) _) _ _ (.inl rfl) _
  exact frm_cell (frm_cell (Frm.refl _ _) _ _ (.inr rfl) _) _ _ (.inr rfl) _

set_option maxHeartbeats 4000000 in
set_option maxRecDepth 100000 in
theorem do_Nil {pv : Value} (a b c v : Int) (E : Int) (y : Bool) (w : World) (R : World → Prop) (hl : Leaves w R)
    (H : Calls Tryz.prog 36 #[pv, .int .i64 a] (doW w 9 a b c v) fun e w' => e = .returned (.tuple #[.bool y, .int .i64 E]) ∧ R w') :
    Calls Tryz.prog 26 #[pv, sgV 9 a b c v] w fun e w' => e = .returned (anV E y 0 0) ∧ DoE w R w' := by
  have H := Lib.hid H
  have HL := Lib.hid hl
  clear hl
  go_enter Tryz.func26, Tryz.ntmps26
  go_wp2_with fail
  refine H.out.mono ?_
  rintro e w4 ⟨rfl, r⟩
  have x := HL.out _ r
  obtain ⟨c0, c1, c2, c3, cf⟩ := x.1.four
  obtain ⟨d0, d1, d2, d3, df⟩ := x.2.four
  have HR := Lib.hid r
  have HX := Lib.hid x
  clear r x H HL
  go_wp2
  refine bodyPost_ret (v := anV E y 0 0) (by simp [results, Tryz.results26, go_sem, c0, c1, c2, c3]) rfl ⟨rfl, _, HR.out, ?_⟩
  refine frm_cell (frm_cell (frm_cell (frm_cell ?_ _ _ (.inl rfl) _) _ _ (.inl rfl) _) _ _ (.inl rfl) _) _ _ (.inl rfl) _
  exact frm_cell (frm_cell (Frm.refl _ _) _ _ (.inr rfl) _) _ _ (.inr rfl) _

set_option maxHeartbeats 4000000 in
set_option maxRecDepth 100000 in
theorem do_Shape {pv : Value} (a b c v : Int) (E p q : Int) (q0 : 0 ≤ q) (q1 : q ≤ 100000) (w : World) (R : World → Prop) (hl : Leaves w R)
    (H : Calls Tryz.prog 34 #[pv, .int .i64 a] (doW w 10 a b c v) fun e w' => e = .returned (.tuple #[.int .i64 p, .int .i64 q, .int .i64 E]) ∧ R w') :
    Calls Tryz.prog 26 #[pv, sgV 10 a b c v] w fun e w' => e = .returned (anV E false p q) ∧ DoE w R w' := by
  have H := Lib.hid H
  have HL := Lib.hid hl
  clear hl
  have hw : IntKind.u64.wrap q = q := by unfold IntKind.wrap IntKind.bits; simp; omega
  go_enter Tryz.func26, Tryz.ntmps26
  go_wp2_with fail
  refine H.out.mono ?_
  rintro e w4 ⟨rfl, r⟩
  have x := HL.out _ r
  obtain ⟨c0, c1, c2, c3, cf⟩ := x.1.four
  obtain ⟨d0, d1, d2, d3, df⟩ := x.2.four
  have HR := Lib.hid r
  have HX := Lib.hid x
  clear r x H HL
  go_wp2
  refine bodyPost_ret (v := anV E false p q) (by simp [results, Tryz.results26, go_sem, c0, c1, c2, c3]) rfl ⟨rfl, _, HR.out, ?_⟩
  refine frm_cell (frm_cell (frm_cell (frm_cell ?_ _ _ (.inl rfl) _) _ _ (.inl rfl) _) _ _ (.inl rfl) _) _ _ (.inl rfl) _
  exact frm_cell (frm_cell (frm_cell (Frm.refl _ _) _ _ (.inr rfl) _) _ _ (.inr rfl) _) _ _ (.inr rfl) _

set_option maxHeartbeats 4000000 in
set_option maxRecDepth 100000 in
theorem do_other {pv : Value} (k a b c v : Int) (hk : k < 1 ∨ 10 < k) (w : World) :
    Calls Tryz.prog 26 #[pv, sgV k a b c v] w fun e w' => e = .returned (anV 0 false 0 0) ∧ Below w.heap.size w w' := by
  have k1 : ¬ k = 1 := by omega
  have k2 : ¬ k = 2 := by omega
  have k3 : ¬ k = 3 := by omega
  have k4 : ¬ k = 4 := by omega
  have k5 : ¬ k = 5 := by omega
  have k6 : ¬ k = 6 := by omega
  have k7 : ¬ k = 7 := by omega
  have k8 : ¬ k = 8 := by omega
  have k9 : ¬ k = 9 := by omega
  have k10 : ¬ k = 10 := by omega
  have BW := Lib.hid (doW_below w k a b c v)
  clear hk
  go_enter Tryz.func26, Tryz.ntmps26
  go_wp2
  exact bodyPost_ret (v := anV 0 false 0 0) (by simp [results, Tryz.results26, go_sem]) rfl ⟨rfl, BW.out⟩

end Go.Proofs.YthmhehehomieiaaGreat

/- An entry of a script, done by a core: what it answers, and which graph the core holds then. -/
namespace Go.Proofs.YthmhehehomieiaaGreat
open Go.RowKit

/-- What an entry is answered, and which graph there is behind it. -/
def doA (nu : Int) (G : Gr) (k a p q v : Int) : Int × Bool × Int × Int :=
  if k = 1 ∨ k = 2 ∨ k = 3 ∨ k = 5 ∨ k = 6 ∨ k = 7 then (stE nu G k a p q v, false, 0, 0)
  else if k = 4 ∨ k = 8 ∨ k = 9 ∨ k = 10 then G.ask k a p else (0, false, 0, 0)
def doG (nu : Int) (G : Gr) (k a p q v : Int) : Gr :=
  if k = 1 ∨ k = 2 ∨ k = 3 ∨ k = 5 ∨ k = 6 ∨ k = 7 then stG nu G k a p q v else G

abbrev anOf (x : Int × Bool × Int × Int) : Value := anV x.1 x.2.1 x.2.2.1 x.2.2.2

/-- Behind an entry: with an error the core holds what it held. -/
def KzP (w0 : World) (b : Nat) (s : Co) (G' : Gr) (E : Int) (Z : Nat → Prop) (w' : World) : Prop := ∃ s', Kz w0 w' Z b s' G' ∧ s'.cf = s.cf ∧ (E ≠ 0 → s' = s)

section
variable {w0 w w' : World} {Z : Nat → Prop} {b : Nat} {s : Co} {G G' : Gr} {k a p q v : Int}

theorem kz_do_of {P : Program} {m d : FuncId} {args dargs : Array Value} {M Eo : Ending → Prop} {E : Int} (h : Kz w0 w Z b s G)
    (D : ∀ R, Leaves w R → (Calls P m args (doW w k a p q v) fun e w' => M e ∧ R w') → Calls P d dargs w fun e w' => Eo e ∧ DoE w R w')
    (c : ∀ S, Cr (doW w k a p q v) b S s → Calls P m args (doW w k a p q v) fun e w' => M e ∧ Act13 (doW w k a p q v) b S s E G' w') :
    Calls P d dargs w fun e w' => Eo e ∧ KzP w0 b s G' E Z w' ∧ Kp Z w w' := by
  have bw := doW_below w k a p q v
  have hs := doW_size w k a p q v
  obtain ⟨x1, x2⟩ := doW_boxes w k a p q v
  have h1 : Kz w0 (doW w k a p q v) (fun j => Z j ∨ j = w.heap.size + 1 ∨ j = w.heap.size + 2) b s G := h.grow bw fun j hj => hj.imp id fun e => by rw [hs]; omega
  have hc := h1.act c
  generalize doW w k a p q v = W at *
  refine (D (fun w' => ∃ s', Kz w0 w' (fun j => Z j ∨ j = w.heap.size + 1 ∨ j = w.heap.size + 2) b s' G' ∧ Kp (fun j => Z j ∨ j = w.heap.size + 1 ∨ j = w.heap.size + 2) W w' ∧ s'.cf = s.cf ∧ (E ≠ 0 → s' = s))
    (fun w' hw => ?_) hc).mono fun e w' ⟨he, w4, hw, f⟩ => ?_
  · obtain ⟨s', _, kp, _⟩ := hw
    exact ⟨x1.kp kp (.inr (.inl rfl)), x2.kp kp (.inr (.inr rfl))⟩
  · obtain ⟨s', k', kp, e1, e2⟩ := hw
    refine ⟨he, ⟨s', k'.write f (fun j _ hj => .inr hj) (fun j hj => .inl (.inl hj)), e1, e2⟩, ?_⟩
    have q1 : Kp Z W w4 := kp.mono fun j _ hn hz => hn (.inl hz)
    have q2 : Kp Z w4 w' := f.mono fun j _ hj hz => by have := (h.low j hz).2; omega
    exact Kp.trans (Kp.of_below bw) (Kp.trans q1 q2)

/-- An entry. -/
theorem kz_do (h : Kz w0 w Z b s G) (k a p q v : Int) (q1 : q ≤ 9223372036854775807) :
    Calls Tryz.prog 26 #[ptr b, sgV k a p q v] w fun e w' => e = .returned (anOf (doA s.cf.nu G k a p q v)) ∧ KzP w0 b s (doG s.cf.nu G k a p q v) (doA s.cf.nu G k a p q v).1 Z w' ∧ Kp Z w w' := by
  by_cases hk : k < 1 ∨ 10 < k
  · have hA : doA s.cf.nu G k a p q v = (0, false, 0, 0) := by unfold doA; rw [if_neg (by omega), if_neg (by omega)]
    have hG : doG s.cf.nu G k a p q v = G := by unfold doG; rw [if_neg (by omega)]
    rw [hA, hG]
    exact (do_other k a p q v hk w).mono fun _ _ ⟨he, hb⟩ => ⟨he, ⟨s, h.keep hb, rfl, fun _ => rfl⟩, Kp.of_below hb⟩
  · have hk : k = 1 ∨ k = 2 ∨ k = 3 ∨ k = 4 ∨ k = 5 ∨ k = 6 ∨ k = 7 ∨ k = 8 ∨ k = 9 ∨ k = 10 := by omega
    rcases hk with rfl | rfl | rfl | rfl | rfl | rfl | rfl | rfl | rfl | rfl
    · have hA : doA s.cf.nu G 1 a p q v = (stE s.cf.nu G 1 a p q v, false, 0, 0) := rfl
      have hG : doG s.cf.nu G 1 a p q v = stG s.cf.nu G 1 a p q v := rfl
      rw [hA, hG]
      exact kz_do_of h (fun R hl H => do_Make a p q v _ w R hl H) fun S hC => make_rep hC h.rep a p q v q1
    · have hA : doA s.cf.nu G 2 a p q v = ((G.change 2 a p q v).1, false, 0, 0) := by rw [← stE_other (nu := s.cf.nu) (by omega)]; rfl
      have hG : doG s.cf.nu G 2 a p q v = (G.change 2 a p q v).2 := by rw [← stG_other (nu := s.cf.nu) (by omega)]; rfl
      rw [hA, hG]
      exact kz_do_of h (fun R hl H => do_Get a p q v _ w R hl H) fun S hC => get_rep hC h.rep a p q v
    · have hA : doA s.cf.nu G 3 a p q v = ((G.change 3 a p q v).1, false, 0, 0) := by rw [← stE_other (nu := s.cf.nu) (by omega)]; rfl
      have hG : doG s.cf.nu G 3 a p q v = (G.change 3 a p q v).2 := by rw [← stG_other (nu := s.cf.nu) (by omega)]; rfl
      rw [hA, hG]
      exact kz_do_of h (fun R hl H => do_Set a p q v _ w R hl H) fun S hC => set_rep hC h.rep a p q v
    · have hA : doA s.cf.nu G 4 a p q v = G.ask 4 a p := rfl
      have hG : doG s.cf.nu G 4 a p q v = G := rfl
      rw [hA, hG]
      have ha : (G.ask 4 a p).2.1 = false ∧ (G.ask 4 a p).2.2.1 = 0 := by
        unfold Gr.ask
        rw [if_pos rfl]
        split
        · split <;> exact ⟨rfl, rfl⟩
        · exact ⟨rfl, rfl⟩
      have := kz_do_of (E := (G.ask 4 a p).1) h (fun R hl H => do_Read a p q v (G.ask 4 a p).1 (G.ask 4 a p).2.2.2 w R hl H) fun S hC => (read_rep hC h.rep a p).mono fun _ _ ⟨h1, _, _, h2⟩ => ⟨h1, .same h.rep h2 _⟩
      unfold anOf
      rw [ha.1, ha.2]
      exact this
    · have hA : doA s.cf.nu G 5 a p q v = ((G.change 5 a p q v).1, false, 0, 0) := by rw [← stE_other (nu := s.cf.nu) (by omega)]; rfl
      have hG : doG s.cf.nu G 5 a p q v = (G.change 5 a p q v).2 := by rw [← stG_other (nu := s.cf.nu) (by omega)]; rfl
      rw [hA, hG]
      exact kz_do_of h (fun R hl H => do_Write a p q v _ w R hl H) fun S hC => write_rep hC h.rep a p q v
    · have hA : doA s.cf.nu G 6 a p q v = ((G.change 6 a p q v).1, false, 0, 0) := by rw [← stE_other (nu := s.cf.nu) (by omega)]; rfl
      have hG : doG s.cf.nu G 6 a p q v = (G.change 6 a p q v).2 := by rw [← stG_other (nu := s.cf.nu) (by omega)]; rfl
      rw [hA, hG]
      exact kz_do_of h (fun R hl H => do_Clear a p q v _ w R hl H) fun S hC => clear_rep hC h.rep a p q v
    · have hA : doA s.cf.nu G 7 a p q v = ((G.change 7 a p q v).1, false, 0, 0) := by rw [← stE_other (nu := s.cf.nu) (by omega)]; rfl
      have hG : doG s.cf.nu G 7 a p q v = (G.change 7 a p q v).2 := by rw [← stG_other (nu := s.cf.nu) (by omega)]; rfl
      rw [hA, hG]
      exact kz_do_of h (fun R hl H => do_Copy a p q v _ w R hl H) fun S hC => coCopy_rep hC h.rep a p q v
    · have hA : doA s.cf.nu G 8 a p q v = G.ask 8 a p := rfl
      have hG : doG s.cf.nu G 8 a p q v = G := rfl
      rw [hA, hG]
      have ha : (G.ask 8 a p).2.2 = (0, 0) := by
        unfold Gr.ask
        rw [if_neg (by omega), if_neg (by omega), if_pos rfl]
        split <;> rfl
      have := kz_do_of (E := (G.ask 8 a p).1) h (fun R hl H => do_Same a p q v (G.ask 8 a p).1 (G.ask 8 a p).2.1 w R hl H) fun S hC => (same_rep hC h.rep a p).mono fun _ _ ⟨h1, _, h2⟩ => ⟨h1, by subst h2; exact .same h.rep hC.same _⟩
      unfold anOf
      rw [ha]
      exact this
    · have hA : doA s.cf.nu G 9 a p q v = G.ask 9 a p := rfl
      have hG : doG s.cf.nu G 9 a p q v = G := rfl
      rw [hA, hG]
      have ha : (G.ask 9 a p).2.2 = (0, 0) := by
        unfold Gr.ask
        rw [if_neg (by omega), if_neg (by omega), if_neg (by omega), if_pos rfl]
        split <;> rfl
      have := kz_do_of (E := (G.ask 9 a p).1) h (fun R hl H => do_Nil a p q v (G.ask 9 a p).1 (G.ask 9 a p).2.1 w R hl H) fun S hC => (nil_rep hC h.rep a p).mono fun _ _ ⟨h1, _, h2⟩ => ⟨h1, by subst h2; exact .same h.rep hC.same _⟩
      unfold anOf
      rw [ha]
      exact this
    · have hA : doA s.cf.nu G 10 a p q v = G.ask 10 a p := rfl
      have hG : doG s.cf.nu G 10 a p q v = G := rfl
      rw [hA, hG]
      have ha : (G.ask 10 a p).2.1 = false ∧ 0 ≤ (G.ask 10 a p).2.2.2 ∧ (G.ask 10 a p).2.2.2 ≤ 100000 := by
        unfold Gr.ask
        rw [if_neg (by omega), if_pos rfl]
        by_cases kk : G.wrong a = 0
        · rw [if_pos kk]
          obtain ⟨e, z⟩ := Gr.wrong_zero kk
          have := h.rep.small _ (h.rep.mem e z)
          refine ⟨rfl, ?_, ?_⟩ <;> simp only <;> omega
        · rw [if_neg kk]; exact ⟨rfl, by simp, by simp⟩
      have := kz_do_of (E := (G.ask 10 a p).1) h (fun R hl H => do_Shape a p q v (G.ask 10 a p).1 (G.ask 10 a p).2.2.1 (G.ask 10 a p).2.2.2 ha.2.1 ha.2.2 w R hl H) fun S hC => (shape_rep hC h.rep a p).mono fun _ _ ⟨h1, _, h2⟩ => ⟨h1, .same h.rep h2 _⟩
      unfold anOf
      rw [ha.1]
      exact this

theorem kg_do {c : Cfg} (h : Kg w0 w Z b c G) (k a p q v : Int) (q1 : q ≤ 9223372036854775807) :
    Calls Tryz.prog 26 #[ptr b, sgV k a p q v] w fun e w' => e = .returned (anOf (doA c.nu G k a p q v)) ∧ Kg w0 w' Z b c (doG c.nu G k a p q v) ∧ Kp Z w w' := by
  obtain ⟨s, kz, rfl⟩ := h
  exact (kz_do kz k a p q v q1).mono fun _ _ ⟨he, ⟨s', k', e1, _⟩, kp⟩ => ⟨he, ⟨s', k', e1⟩, kp⟩
end
end Go.Proofs.YthmhehehomieiaaGreat

/- What the walks over scripts share; the walk of CoreCopies. -/
namespace Go.Proofs.YthmhehehomieiaaGreat
open Go.RowKit

theorem change_len (G : Gr) (k a b c v : Int) : (G.change k a b c v).2.hs.length = G.hs.length := by
  unfold Gr.change Gr.hold Gr.setNode
  repeat' split
  all_goals simp
theorem doG_len (nu : Int) (G : Gr) (k a p q v : Int) : (doG nu G k a p q v).hs.length = G.hs.length := by
  unfold doG stG
  split
  · split
    · rfl
    · exact change_len _ _ _ _ _ _
  · rfl

/-- Two handles are there. -/
theorem Gr.two {G : Gr} (h : 2 ≤ G.hs.length) : ∃ ns x0 x1 r lg, G = ⟨ns, x0 :: x1 :: r, lg⟩ := by
  obtain ⟨ns, hs, lg⟩ := G
  match hs, h with
  | x0 :: x1 :: r, _ => exact ⟨ns, x0, x1, r, lg, rfl⟩

section
variable (ns : List Node2) (x0 x1 : Int) (r : List Int) (lg : Int)
theorem two_has0 : (Gr.mk ns (x0 :: x1 :: r) lg).has 0 = true := by simp [Gr.has]; omega
theorem two_has1 : (Gr.mk ns (x0 :: x1 :: r) lg).has 1 = true := by simp [Gr.has]; omega
theorem two_held0 : (Gr.mk ns (x0 :: x1 :: r) lg).held 0 = x0 := rfl
theorem two_held1 : (Gr.mk ns (x0 :: x1 :: r) lg).held 1 = x1 := rfl
theorem two_copy : (Gr.mk ns (x0 :: x1 :: r) lg).change 7 0 1 0 0 = (0, ⟨ns, x1 :: x1 :: r, lg⟩) := by
  unfold Gr.change
  simp only [two_has0, two_has1]
  rfl
theorem two_clear1 : (Gr.mk ns (x0 :: x1 :: r) lg).change 6 1 0 0 0 = (0, ⟨ns, x0 :: 0 :: r, lg⟩) := by
  unfold Gr.change
  simp only [two_has1]
  rfl
theorem two_same : (Gr.mk ns (x0 :: x1 :: r) lg).ask 8 0 1 = (0, x0 == x1, 0, 0) := by
  unfold Gr.ask
  simp only [two_has0, two_has1]
  rfl
theorem two_nil0 : (Gr.mk ns (x0 :: x1 :: r) lg).ask 9 0 0 = (0, x0 == 0, 0, 0) := by
  unfold Gr.ask
  simp only [two_has0]
  rfl
theorem two_nil1 : (Gr.mk ns (x0 :: x1 :: r) lg).ask 9 1 0 = (0, x1 == 0, 0, 0) := by
  unfold Gr.ask
  simp only [two_has1]
  rfl
end

/-- The core holds a graph with so many handles. -/
def Kl (w0 w : World) (Z : Nat → Prop) (b : Nat) (c : Cfg) (n : Nat) : Prop := ∃ G, Kg w0 w Z b c G ∧ G.hs.length = n

set_option maxHeartbeats 8000000 in
set_option maxRecDepth 100000 in
theorem coreCopies_walk (a b c d : Int) (ha : By a) (hb : By b) (hc : By c) (hd : By d) (A : Option Addr) (n cp : Nat) (w : World) (rd : RdSt w A n) (_ : n ≤ cp) (_ : cp ≤ maxLen) :
    Calls Tryz.prog 10 #[.int .u8 a, .int .u8 b, .int .u8 c, .int .u8 d, .slice A n cp] w fun e w' => e = .returned (.bool true) ∧ Below w.heap.size w w' := by
  have HC := Lib.hid (config_any a b c d ha hb hc hd)
  have HM := Lib.hid (cfgOf_may a b c d ha hb hc hd)
  have HH := Lib.hid (show (Gr.none_ (cfgOf a b c d)).hs.length = (cfgOf a b c d).ha.toNat from zeros_length _)
  have H2 := Lib.hid (show 2 ≤ (cfgOf a b c d).ha.toNat from by show 2 ≤ (a % 5 + 2).toNat; have := ha.1; omega)
  have RD := Lib.hid rd
  clear ha hb hc hd rd
  generalize cfgOf a b c d = cf at *
  go_enter Tryz.func10, Tryz.ntmps10
  go_wp2_with fail
  refine (HC.out _).mono ?_
  rintro e w1 ⟨rfl, b1⟩
  have HN := Lib.hid (kg_new (w0 := w) (Z := noZ) HM.out b1 (fun _ e => e.elim))
  clear b1 HC
  go_wp2_with fail
  refine HN.out.mono ?_
  rintro e w2 ⟨b, rfl, k2, _⟩
  have K2 := Lib.hid k2
  clear k2 HN HM
  go_wp2_with fail
  refine (awake13_walk _).mono ?_
  rintro e w3 ⟨rfl, b3⟩
  have KL := Lib.hid (show Kl w w3 noZ b cf cf.ha.toNat from ⟨_, K2.out.keep b3, HH.out⟩)
  clear b3 K2 HH
  go_wp2_with fail
  go_loopw [13] (fun s wr => ∃ (i : Nat), i ≤ n ∧ i ≤ 60 ∧ s = .int .i64 i ∧ Hid (Kl w wr noZ b cf cf.ha.toNat)) (fun s _ => n - (intOf s).toNat)
  case atStart => exact ⟨0, Nat.zero_le _, Nat.zero_le _, rfl, KL⟩
  case round =>
    clear KL
    obtain ⟨i, hi, hi2, rfl, KL⟩ := hrel
    by_cases hlt : i < n ∧ i < 60
    · obtain ⟨h1, h2⟩ := hlt
      obtain ⟨ad, k, x, p, q, v, rfl, _, iq, hcell⟩ := RD.out i h1
      obtain ⟨G, HG, hL⟩ := KL.out
      obtain ⟨c0, c1, c2, c3, c4⟩ := hcell _ HG.bel
      have HD := Lib.hid (kg_do HG k x p q v iq.2)
      have hL := Lib.hid ((doG_len cf.nu G k x p q v).trans hL)
      have h3 : (i : Int) < (n : Int) := by omega
      have h4 : (i : Int) < 60 := by omega
      have h5 : (0 : Int) ≤ (i : Int) := by omega
      clear KL HG hcell
      go_wp2_with fail
      refine HD.out.mono ?_
      rintro e w2 ⟨rfl, k2, _⟩
      have KN := Lib.hid (show Kl w w2 noZ b cf cf.ha.toNat from ⟨_, k2, hL.out⟩)
      clear k2 HD hL c0 c1 c2 c3 c4
      go_wp2
      go_roundw
      case rel => exact ⟨i + 1, by omega, by omega, by go_num, KN⟩
      case measure => simp [intOf]; omega
    · have hlt : ((i : Int) < (n : Int) ∧ ¬ ((i : Int) < 60)) ∨ ¬ ((i : Int) < (n : Int)) := by omega
      generalize wr = wo at *
      clear RD hi hi2
      obtain ⟨G, HG, hL⟩ := KL.out
      obtain ⟨ns, x0, x1, r, lg, rfl⟩ := Gr.two (G := G) (by rw [hL]; exact H2.out)
      have K := Lib.hid HG
      have HS := Lib.hid (kg_stats HG)
      clear KL HG hL H2
      simp only at HS
      obtain ⟨m1, hm1⟩ : ∃ m1 : Int, (ns.length : Int) = m1 := ⟨_, rfl⟩
      obtain ⟨m2, hm2⟩ : ∃ m2 : Int, (tot ns : Int) = m2 := ⟨_, rfl⟩
      rw [hm1, hm2] at HS
      have HM := Lib.hid (And.intro hm1 hm2)
      clear hm1 hm2
      rcases hlt with ⟨g1, g2⟩ | g1
      all_goals
        go_wp2_with fail
        refine HS.out.mono ?_
        rintro e w4 ⟨rfl, b4⟩
        have K4 := Lib.hid ((K.out.keep b4).grow (Z' := fun k => k = w4.heap.size) ((Below.refl _ w4).alloc (Nat.le_refl _) (stO8 m1 m2 0 0 0 m2 0 (cf.ps * cf.pz))) (fun k e => .inr ⟨by omega, by subst e; simp⟩))
        have X4 := Lib.hid (Blk.new w4 (stL8 m1 m2 0 0 0 m2 0 (cf.ps * cf.pz)) 31)
        clear b4 HS K
        go_wp2_with fail
        have h := kg_copy K4.out 0 1
        rw [two_copy] at h
        refine h.mono ?_
        rintro e w5 ⟨rfl, k5, p5⟩
        have K5 := Lib.hid k5
        have X5 := Lib.hid (X4.out.kp p5 rfl)
        clear h k5 p5 K4 X4
        go_wp2_with fail
        have h := kg_same K5.out 0 1
        rw [two_same, beq_self_eq_true] at h
        refine h.mono ?_
        rintro e w6 ⟨rfl, rfl⟩
        clear h
        go_wp2_with fail
        have h := kg_nil K5.out 1
        rw [two_nil1] at h
        obtain ⟨nb, hnb⟩ : ∃ nb, (x1 == 0) = nb := ⟨_, rfl⟩
        rw [hnb] at h
        have NB := Lib.hid hnb
        clear hnb
        refine h.mono ?_
        rintro e w6 ⟨rfl, rfl⟩
        clear h
        go_wp2_with fail
        have K5 := K5.out.keep (below_drew w5)
        have X5 := X5.out.drew
        have X5' := X5
        go_region_held3 (fun w' => w'.cell? ⟨w4.heap.size, 0, none⟩ = some (.int .i64 m1) ∧ w'.cell? ⟨w4.heap.size, 1, none⟩ = some (.int .i64 m2) ∧ w'.cell? ⟨w4.heap.size, 2, none⟩ = some (.int .i64 0) ∧ w'.cell? ⟨w4.heap.size, 3, none⟩ = some (.int .i64 0) ∧ w'.cell? ⟨w4.heap.size, 4, none⟩ = some (.int .i64 0) ∧ w'.cell? ⟨w4.heap.size, 5, none⟩ = some (.int .i64 m2) ∧ w'.cell? ⟨w4.heap.size, 6, none⟩ = some (.int .i64 0) ∧ w'.cell? ⟨w4.heap.size, 7, none⟩ = some (.int .i64 (cf.ps * cf.pz))) (exact ⟨X5.cell 0, X5.cell 1, X5.cell 2, X5.cell 3, X5.cell 4, X5.cell 5, X5.cell 6, X5.cell 7⟩) (first
          | (go_at_call 20; have h := kg_stats K5; simp only at h; rw [HM.out.1, HM.out.2] at h; refine h.mono ?_; rintro e v1 ⟨rfl, b2⟩; have K5 := K5.keep b2; have X5 := X5.keep b2; clear b2 h))
        all_goals
          rename_i v1 _ _
          have K6 := Lib.hid K5
          clear K5 X5
          go_wp2_with fail
          have h := kg_clear K6.out 1
          rw [two_clear1] at h
          refine h.mono ?_
          rintro e w7 ⟨rfl, k7, _⟩
          have K7 := Lib.hid k7
          clear h k7 K6
          go_wp2_with fail
          have h := kg_same K7.out 0 1
          rw [two_same, NB.out] at h
          refine h.mono ?_
          rintro e w8 ⟨rfl, rfl⟩
          clear h
          go_wp2
          go_ret
          exact ⟨by simp, K7.out.bel⟩
end Go.Proofs.YthmhehehomieiaaGreat

/- Of no program: region_made_tailR (MdR) for operations that are guarded: one that is not wanted makes nothing. -/
namespace Go.Proofs.YthmhehehomieiaaGreat

section
variable (P : Program) (G : Made → World → Prop) (md : Region.Mode) (ops : Array Oper)
/-- Wherever what the operation waits for was made as m says, it makes something of its kind; or it is not wanted. -/
def makesG (V : Value → Prop) (i : Nat) (o : Oper) (a : Act) (m : Made) : Prop :=
  (Region.wanted o (yielded ops a.tmps) = true ∧ makesR P G md V i o a m) ∨
  (Region.wanted o (yielded ops a.tmps) = false ∧ V undef ∧ ∀ m' w, G m' w → (∀ d, (d = i ∨ ∃ e ∈ o.after, Region.binds md e = true ∧ e.on = d) → m' d = m d) → G (m'.upd i undef) w)

/-- The walk in the order of the text. -/
def wpMadeG (V : Nat → Value → Prop) (T : Act → Made → Prop) : List Oper → Nat → Act → Made → Prop
  | [], _, a, m => T a m
  | o :: rest, k, a, m => makesG P G md ops (V k) k o a m ∧ ∀ v, V k v → wpMadeG V T rest (k + 1) (a.put o.dst v) (m.upd k v)

def mOpG (V : Nat → Value → Prop) (i : Nat) (K : Act → Made → Prop) (a : Act) (m : Made) : Prop :=
  match ops[i]? with
  | none => False
  | some o => makesG P G md ops (V i) i o a m ∧ ∀ v, V i v → K (a.put o.dst v) (m.upd i v)
end

section
variable {P : Program} {G : Made → World → Prop} {md : Region.Mode} {ops : Array Oper} {V : Nat → Value → Prop}

theorem wpOp_of_madeG {i : Nat} {K : Act → Made → Prop} {K' : Act → World → Prop} {Q : Exit → Act → World → Prop} {a : Act} {m : Made} {w : World} (hG : G m w) (h : ∀ a m w, G m w → K a m → K' a w) (hh : mOpG P G md ops V i K a m) : wpOp P ops Q i K' a w := by
  unfold mOpG at hh
  unfold wpOp
  split
  · rename_i ho; rw [ho] at hh; exact hh.elim
  · rename_i o ho
    rw [ho] at hh
    obtain ⟨hm, hk⟩ := hh
    rcases hm with ⟨hw, hm⟩ | ⟨hw, hv, hm⟩
    · rw [if_pos hw]
      refine .inl ?_
      have h3 := hm m w hG fun _ _ => rfl
      unfold Oper.wp
      generalize (execOp a.eval o).run P w = r at *
      cases r with
      | ok n w' =>
        cases n <;> simp only [madeUpon] at h3 <;> simp only [Oper.upon]
        case value u => exact h _ _ _ h3.2 (hk u h3.1)
        case skip => exact h _ _ _ h3.2 (hk _ h3.1)
        case enter f args =>
          refine h3.mono fun e w'' he => ?_
          obtain ⟨u, rfl, hv, hg'⟩ := he
          exact h _ _ _ hg' (hk u hv)
      | halt x w' => simp only [madeUpon] at h3
    · rw [if_neg (by rw [hw]; exact Bool.false_ne_true)]
      exact h _ _ _ (hm m w hG fun _ _ => rfl) (hk _ hv)

theorem makesG_same {V : Value → Prop} {i : Nat} {o : Oper} {a a' : Act} {m m' : Made} (h : execOp a'.eval o = execOp a.eval o) (hw : Region.wanted o (yielded ops a'.tmps) = Region.wanted o (yielded ops a.tmps)) (hm : ∀ d, (d = i ∨ ∃ e ∈ o.after, Region.binds md e = true ∧ e.on = d) → m' d = m d) (k : makesG P G md ops V i o a m) : makesG P G md ops V i o a' m' := by
  unfold makesG at *
  rw [hw]
  refine k.imp (fun k => ⟨k.1, makesR_same h hm k.2⟩) fun k => ⟨k.1, k.2.1, fun m2 w hw ha => k.2.2 m2 w hw fun d hd => (ha d hd).trans (hm d hd)⟩

/-- f operations more come up, each one of the first n, and make something of its kind, whichever is picked; then L. -/
def HeadMG (P : Program) (G : Made → World → Prop) (md : Region.Mode) (ops : Array Oper) (V : Nat → Value → Prop) (n : Nat) (L : Array Bool → Act → Made → Prop) : Nat → Array Bool → Act → Made → Prop
  | 0, done, a, m => L done a m
  | f + 1, done, a, m => Region.ready md ops done ≠ [] ∧ ∀ i ∈ Region.ready md ops done, i < n ∧ mOpG P G md ops V i (HeadMG P G md ops V n L f (done.setIfInBounds i true)) a m

theorem HeadMG.any {n g : Nat} {L : Array Bool → Act → Made → Prop} {Q : Exit → Act → World → Prop} (hL : ∀ done a m w, G m w → L done a m → wpAny P md ops Q g done a w) (f : Nat) :
    ∀ done a m w, G m w → HeadMG P G md ops V n L f done a m → wpAny P md ops Q (f + g) done a w := by
  induction f with
  | zero => intro done a m w hw h; rw [Nat.zero_add]; exact hL done a m w hw h
  | succ f ih =>
    intro done a m w hw h
    rw [Nat.succ_add]
    exact ⟨fun e => absurd e h.1, fun i hi => wpOp_of_madeG hw (fun a' m' w' hw' h' => ih _ a' m' w' hw' h') (h.2 i hi).2⟩

/-- An operation of the head that may come up now may be taken first. -/
theorem HeadMG.first {n i : Nat} {o : Oper} {L : Array Bool → Act → Made → Prop} (hV : ∀ k, ∃ v, V k v) (ho : ops[i]? = some o) (sel : Region.noSelect ops = true)
    (sink : Region.sinkB md ops n = true) (chain : Region.chainB md ops n = true) (hn : n < ops.size) (hin : i < n) (last : ∀ done a m, L done a m → ∀ j ∈ Region.ready md ops done, n ≤ j) (f : Nat) :
    ∀ done a m, HeadInv md ops n done →
      (∀ j oj, ops[j]? = some oj → j ≠ i → done.getD j true = false → (∀ e ∈ oj.after, Region.binds md e = true → e.on ≠ i) → o.apart ops oj = true) →
      i ∈ Region.ready md ops done → makesG P G md ops (V i) i o a m → (∀ v, V i v → HeadMG P G md ops V n L f (done.setIfInBounds i true) (a.put o.dst v) (m.upd i v)) → HeadMG P G md ops V n L (f + 1) done a m := by
  induction f with
  | zero =>
    intro done a m inv _ hr hy H
    refine ⟨List.ne_nil_of_mem hr, fun j hj => ?_⟩
    have hjn : j < n := Nat.lt_of_not_le fun h => tail_waits sink chain hn inv _ i rfl hin (mem_ready.1 hr).1 j h hj
    by_cases e : j = i
    · subst e
      refine ⟨hjn, ?_⟩
      unfold mOpG
      rw [ho]
      exact ⟨hy, H⟩
    · obtain ⟨v, hv⟩ := hV i
      have := last _ _ _ (H v hv) j (ready_mono hj e)
      omega
  | succ f ih =>
    intro done a m inv fr hr hy H
    refine ⟨List.ne_nil_of_mem hr, fun j hj => ?_⟩
    have hjn : j < n := Nat.lt_of_not_le fun h => tail_waits sink chain hn inv _ i rfl hin (mem_ready.1 hr).1 j h hj
    by_cases e : j = i
    · subst e
      refine ⟨hjn, ?_⟩
      unfold mOpG
      rw [ho]
      exact ⟨hy, H⟩
    · obtain ⟨hju, oj, hoj, hall⟩ := mem_ready.1 hj
      have off : ∀ d ∈ oj.after, Region.binds md d = true → d.on ≠ i := fun d hd hb hon => by
        have h1 := hall d hd hb
        rw [hon, getD_both (mem_ready.1 hr).1] at h1
        cases h1
      have agj : ∀ d, (d = j ∨ ∃ x ∈ oj.after, Region.binds md x = true ∧ x.on = d) → d ≠ i := fun d hd => by
        rcases hd with rfl | ⟨x, hx, hb, rfl⟩
        · exact e
        · exact off x hx hb
      obtain ⟨hiu, oi, hoi, halli⟩ := mem_ready.1 hr
      have eoi : oi = o := by rw [ho] at hoi; exact (Option.some.inj hoi).symm
      have agi : ∀ d, (d = i ∨ ∃ x ∈ o.after, Region.binds md x = true ∧ x.on = d) → d ≠ j := fun d hd => by
        rcases hd with rfl | ⟨x, hx, hb, rfl⟩
        · exact Ne.symm e
        · intro hon
          have h1 := halli x (eoi ▸ hx) hb
          rw [hon, getD_both hju] at h1
          cases h1
      have S := Region.noSelect_spec sel
      have ap := fr j oj hoj e hju off
      obtain ⟨a1, a2, a3⟩ := Oper.apart_spec ap
      have H2 : ∀ v, V i v → mOpG P G md ops V j (HeadMG P G md ops V n L f ((done.setIfInBounds i true).setIfInBounds j true)) (a.put o.dst v) (m.upd i v) := fun v hv => ((H v hv).2 j (ready_mono hj e)).2
      obtain ⟨v0, hv0⟩ := hV i
      have H0 := H2 v0 hv0
      refine ⟨hjn, ?_⟩
      unfold mOpG at H0 H2 ⊢
      rw [hoj] at H0 H2 ⊢
      simp only at H0 H2 ⊢
      refine ⟨makesG_same (execOp_put oj (fun cs b => S j oj cs b hoj) a o.dst v0 a1).symm (wanted_put oj a o.dst v0 a1).symm (fun d hd => (Made.upd_ne v0 (agj d hd)).symm) H0.1, fun u hu => ?_⟩
      refine ih _ _ _ (inv.set hj hjn) (fun k ok hk hki hu' hno => fr k ok hk hki ?_ hno) (ready_mono hr (Ne.symm e)) (makesG_same (execOp_put o (fun cs b => S i o cs b ho) a oj.dst u a3) (wanted_put o a oj.dst u a3) (fun d hd => Made.upd_ne u (agi d hd)) hy) fun v hv => ?_
      · by_cases ek : j = k
        · subst ek; exact hju
        · rwa [getD_set_ne true ek] at hu'
      · have := (H2 v hv).2 u hu
        rw [Act.put_comm a v u a2, Made.upd_comm m (Ne.symm e) v u] at this
        rw [Array.setIfInBounds_comm _ _ e]
        exact this

theorem HeadMG.lex {n g : Nat} {T : Act → Made → Prop} (hV : ∀ k, ∃ v, V k v) (sel : Region.noSelect ops = true) (sink : Region.sinkB md ops n = true) (chain : Region.chainB md ops n = true) (hn : n < ops.size) (l : List Oper) :
    ∀ k done a m, (∀ j, j < l.length → l[j]? = ops[k + j]?) → k + l.length = n → HeadInv md ops n done → Region.lexHead md ops g l.length k done = true → wpMadeG P G md ops V T l k a m →
      HeadMG P G md ops V n (fun d a' m' => Region.seqB md ops g n d = true ∧ T a' m') l.length done a m := by
  induction l with
  | nil =>
    intro k done a m _ hk _ hB h
    obtain rfl : k = n := by simpa using hk
    exact ⟨by simpa [Region.lexHead] using hB, h⟩
  | cons o l ih =>
    intro k done a m hl hk inv hB h
    have h0 : ops[k]? = some o := by simpa using (hl 0 (by simp)).symm
    have hkl : k + (l.length + 1) = n := hk
    have hkn : k < n := by omega
    simp only [List.length_cons, Region.lexHead, Bool.and_eq_true] at hB
    have hr : k ∈ Region.ready md ops done := by simpa using hB.1.1
    refine HeadMG.first hV h0 sel sink chain hn hkn (fun d a' m' hL => seqB_ready hL.1) l.length done a m inv (Region.free_spec h0 hB.1.2) hr h.1 fun v hv =>
      ih (k + 1) _ _ _ (fun j hj => ?_) (by omega) (inv.set hr hkn) hB.2 (h.2 v hv)
    have := hl (j + 1) (by simp; omega)
    simpa [Nat.add_assoc, Nat.add_comm 1 j] using this

theorem wpMadeG_step {T : Act → Made → Prop} {o : Oper} {rest : List Oper} {k : Nat} {a : Act} {m : Made} (h : makesG P G md ops (V k) k o a m)
    (h2 : ∀ K : Act → Made → Prop, (∀ a m, wpMadeG P G md ops V T rest (k + 1) a m → K a m) → ∀ v, V k v → K (a.put o.dst v) (m.upd k v)) : wpMadeG P G md ops V T (o :: rest) k a m :=
  ⟨h, fun v hv => h2 _ (fun _ _ h => h) v hv⟩
theorem wpMadeG_nil {T : Act → Made → Prop} {k : Nat} {a : Act} {m : Made} (h : T a m) : wpMadeG P G md ops V T [] k a m := h

/-- The region's head is walked in the order of the text, whatever is made; its tail as it stands. -/
theorem region_made_tailG {id : Nat} {Q : Exit → Act → World → Prop} {a : Act} {w : World} {l : List Oper} (G : Made → World → Prop) (V : Nat → Value → Prop) (n : Nat) (hm : P.follows .mixedOrders = true) (hB : Region.lexTailB .any l.toArray n = true)
    (hV : ∀ k, ∃ v, V k v) (hG : G (fun _ => none) w.drew)
    (h : wpMadeG P G .any l.toArray V (fun a' m => ∀ w', G m w' → wpList P l.toArray Q (l.drop n) a' w') (l.take n) 0 a (fun _ => none)) : (Code.region id l.toArray true).wp P Q a w := by
  simp only [Region.lexTailB, Bool.and_eq_true, decide_eq_true_eq] at hB
  obtain ⟨⟨⟨⟨sel, hn⟩, sink⟩, chain⟩, lex⟩ := hB
  have hn' : n < l.length := by simpa using hn
  have e1 : (l.take n).length = n := by simp; omega
  have e2 : (l.drop n).length = l.toArray.size - n := by simp
  have inv : HeadInv .any l.toArray n (Array.replicate l.toArray.size false) :=
    ⟨by simp, fun j oj _ hj => (by rw [getD_replicate_false] at hj; cases hj), fun t _ ht => getD_in (by simpa using ht) (getD_replicate_false _ _)⟩
  have H := HeadMG.lex (md := .any) (g := l.toArray.size - n) hV sel sink chain hn (l.take n) 0 _ a _ (fun j hj => by
    have : j < n := by omega
    simp [this]) (by simpa using e1) inv (by rw [e1]; exact lex) h
  refine wp_region_any hm ?_
  have R := HeadMG.any (Q := Q) (g := l.toArray.size - n) (fun d a' m' w' hw' hL => by
    have := wpAny_of_seq (md := .any) (Q' := Q) (l.drop n) n d a' w' (fun j => by simp [List.getElem?_drop]) (by rw [e2]; exact hL.1) (hL.2 w' hw')
    rwa [e2] at this) _ _ _ _ { w with drawn := w.drawn + 1 } hG H
  rw [e1, show n + (l.toArray.size - n) = l.toArray.size by omega] at R
  exact R
end
end Go.Proofs.YthmhehehomieiaaGreat

/- What the walks over acts share; the walk of MinorHandles. -/
namespace Go.Proofs.YthmhehehomieiaaGreat
namespace Gc
open Go.RowKit

theorem nb_fresh {c : Cfg} {pt : Pts} : Nb 0 (Co.fresh c pt) := ⟨⟨Int.le_refl _, Int.le_refl _⟩, ⟨Int.le_refl _, Int.le_refl _⟩, ⟨Int.le_refl _, Int.le_refl _⟩⟩

/-- A core, i acts since it was made. -/
def Ml (w0 w : World) (b : Nat) (cf : Cfg) (i : Nat) : Prop := ∃ s A, Km w0 w noZ b s ∧ Cyc s A ∧ s.cf = cf ∧ Nb i s

theorem quA_cell {w : World} {g off n ca i : Nat} {xs : List Int} {x : Int} (h : Qu w (some ⟨g, off, none⟩) n ca xs) (hn : 0 < n) (hx : xs[i]? = some x) : w.cell? ⟨g, off + i, none⟩ = some (.int .i64 x) := by
  obtain ⟨g', off', e, _, hc, _⟩ := h.at_ hn
  cases e
  exact hc i x hx
theorem quA_spot {w : World} {A : Option Addr} {n ca : Nat} {xs : List Int} (h : Qu w A n ca xs) (hn : 0 < n) : ∃ g off, A = some ⟨g, off, none⟩ := by
  obtain ⟨g, off, e, _⟩ := h.at_ hn
  exact ⟨g, off, e⟩

section
variable {w0 w w' : World} {Z : Nat → Prop} {b N c4 : Nat} {s : Co} {A : Hp} {A4 : Option Addr} {x : Int}

/-- A core beside a list of what its handles hold. -/
def HanI (w0 w : World) (b : Nat) (s : Co) (A4 : Option Addr) (N c4 : Nat) : Prop := Km w0 w (fun k => blkOf A4 = some k) b s ∧ Qu w A4 N c4 s.hs

theorem HanI.keep (h : HanI w0 w b s A4 N c4) (f : Below w.heap.size w w') : HanI w0 w' b s A4 N c4 := ⟨h.1.keep f, h.2.keep f⟩

theorem km_all (h : Km w0 w noZ b s) : w.cell? ⟨b, 18, none⟩ = some (htP s.pt.t) ∧ Calls Tryz.prog 21 #[htP s.pt.t] w fun e w' => ∃ A' c', e = .returned (.slice A' s.hs.length c') ∧ HanI w0 w' b s A' s.hs.length c' := by
  obtain ⟨S, hC⟩ := h.cr
  obtain ⟨h1, h2⟩ := tall_co hC
  refine ⟨h1, h2.mono ?_⟩
  rintro e w' ⟨A', c', he, q, bl, fr⟩
  refine ⟨A', c', he, h.grow bl fun k hk => .inr ⟨fr k hk, ?_⟩, q⟩
  rcases q.lies with ⟨rfl, _⟩ | ⟨g, off, cs, rfl, hb, _⟩
  · cases hk
  · cases hk; exact hb.lt

theorem km_c14 (h : Km w0 w Z b s) : w.cell? ⟨b, 14, none⟩ = some (bpP s.pt.y) := let ⟨_, hC⟩ := h.cr; c14_of hC
theorem han_from (h : HanI w0 w b s A4 N c4) (c : Cyc s A) (hx : x ∈ s.hs) : Calls Tryz.prog 56 #[bpP s.pt.y, .int .i64 x] w fun e w' => e = .returned (.bool false) ∧ Below w.heap.size w w' := by
  obtain ⟨S, hC⟩ := h.1.cr
  obtain ⟨ok, nE⟩ := c.held hx
  obtain ⟨P, own, h0, rfl, rfl⟩ := hC
  have e : s.pt.y = P.y := by rw [h0.pts]; rfl
  rw [e]
  have H := bFrom_any _ _ _ _ _ _ w x (h0.prt 2).1
  have z : inH (hAt s.cf.nu 1 (!s.yn)) s.yv x = false := by
    cases z : inH (hAt s.cf.nu 1 (!s.yn)) s.yv x
    · rfl
    · exact absurd ((c.sim.laid.from_iff c.inv ok).1 z) nE
  rw [z] at H
  exact H
theorem han_now (h : HanI w0 w b s A4 N c4) (c : Cyc s A) (hx : x ∈ s.hs) : Calls Tryz.prog 31 #[ptr b, .int .i64 x] w fun e w' => e = .returned (.int .i64 x) ∧ HanI w0 w' b s A4 N c4 := by
  obtain ⟨ok, nE⟩ := c.held hx
  have q := h.2
  refine (h.1.look fun S hC => now_sim hC c.sim c.inv ok).mono ?_
  rintro e w' ⟨he, k, kp⟩
  rw [Hp.now_no nE] at he
  exact ⟨he, k, q.kp kp fun _ e => e⟩
theorem km_left (h : Km w0 w Z b s) (c : Cyc s A) (hm : s.mv = false) : Calls Tryz.prog 51 #[bpP s.pt.y] w fun e w' => e = .returned (.int .i64 0) ∧ Below w.heap.size w w' := by
  obtain ⟨S, hC⟩ := h.cr
  have H := left_at hC
  have : s.yv = 0 := by
    have u := c.sim.laid.he.use
    rw [(c.idle hm).1] at u
    exact u
  rw [this] at H
  exact H
end

def HanV0 (b y g f N c j : Nat) (x : Int) : Nat → Value → Prop
  | 0 => fun v => v = ptr b
  | 1 => fun v => v = ptr b
  | 2 => fun v => v = .pointer (some ⟨b, 14, none⟩)
  | 3 => fun v => v = bpP y
  | 4 => fun v => v = .slice (some ⟨g, f, none⟩) N c
  | 5 => fun v => v = .int .i64 j
  | 6 => fun v => v = .pointer (some ⟨g, f + j, none⟩)
  | 7 => fun v => v = .int .i64 x
  | 8 => fun v => v = .bool false
  | 9 => fun v => v = .bool false
  | 10 => fun v => v = .slice (some ⟨g, f, none⟩) N c
  | 11 => fun v => v = .int .i64 j
  | 12 => fun v => v = .pointer (some ⟨g, f + j, none⟩)
  | 13 => fun v => v = .int .i64 x
  | 14 => fun v => v = .bool false
  | 15 => fun v => v = .bool false
  | 16 => fun v => v = undef
  | 17 => fun v => v = undef
  | 18 => fun v => v = undef
  | 19 => fun v => v = undef
  | 20 => fun v => v = undef
  | 21 => fun v => v = undef
  | 22 => fun v => v = undef
  | 23 => fun v => v = undef
  | 24 => fun v => v = undef
  | 25 => fun v => v = undef
  | 26 => fun v => v = undef
  | 27 => fun v => v = .bool false
  | _ => fun _ => True
theorem HanV0_some (b y g f N c j : Nat) (x : Int) : ∀ i, ∃ v, HanV0 b y g f N c j x i v
  | 0 => ⟨_, rfl⟩
  | 1 => ⟨_, rfl⟩
  | 2 => ⟨_, rfl⟩
  | 3 => ⟨_, rfl⟩
  | 4 => ⟨_, rfl⟩
  | 5 => ⟨_, rfl⟩
  | 6 => ⟨_, rfl⟩
  | 7 => ⟨_, rfl⟩
  | 8 => ⟨_, rfl⟩
  | 9 => ⟨_, rfl⟩
  | 10 => ⟨_, rfl⟩
  | 11 => ⟨_, rfl⟩
  | 12 => ⟨_, rfl⟩
  | 13 => ⟨_, rfl⟩
  | 14 => ⟨_, rfl⟩
  | 15 => ⟨_, rfl⟩
  | 16 => ⟨_, rfl⟩
  | 17 => ⟨_, rfl⟩
  | 18 => ⟨_, rfl⟩
  | 19 => ⟨_, rfl⟩
  | 20 => ⟨_, rfl⟩
  | 21 => ⟨_, rfl⟩
  | 22 => ⟨_, rfl⟩
  | 23 => ⟨_, rfl⟩
  | 24 => ⟨_, rfl⟩
  | 25 => ⟨_, rfl⟩
  | 26 => ⟨_, rfl⟩
  | 27 => ⟨_, rfl⟩
  | _ + 28 => ⟨undef, trivial⟩
def HanV1 (b y g f N c j : Nat) (x : Int) : Nat → Value → Prop
  | 0 => fun v => v = ptr b
  | 1 => fun v => v = ptr b
  | 2 => fun v => v = .pointer (some ⟨b, 14, none⟩)
  | 3 => fun v => v = bpP y
  | 4 => fun v => v = .slice (some ⟨g, f, none⟩) N c
  | 5 => fun v => v = .int .i64 j
  | 6 => fun v => v = .pointer (some ⟨g, f + j, none⟩)
  | 7 => fun v => v = .int .i64 x
  | 8 => fun v => v = .bool false
  | 9 => fun v => v = .bool false
  | 10 => fun v => v = .slice (some ⟨g, f, none⟩) N c
  | 11 => fun v => v = .int .i64 j
  | 12 => fun v => v = .pointer (some ⟨g, f + j, none⟩)
  | 13 => fun v => v = .int .i64 x
  | 14 => fun v => v = .bool true
  | 15 => fun v => v = .bool true
  | 16 => fun v => v = ptr b
  | 17 => fun v => v = .slice (some ⟨g, f, none⟩) N c
  | 18 => fun v => v = .int .i64 j
  | 19 => fun v => v = .pointer (some ⟨g, f + j, none⟩)
  | 20 => fun v => v = .int .i64 x
  | 21 => fun v => v = .int .i64 x
  | 22 => fun v => v = .slice (some ⟨g, f, none⟩) N c
  | 23 => fun v => v = .int .i64 j
  | 24 => fun v => v = .pointer (some ⟨g, f + j, none⟩)
  | 25 => fun v => v = .int .i64 x
  | 26 => fun v => v = .bool false
  | 27 => fun v => v = .bool false
  | _ => fun _ => True
theorem HanV1_some (b y g f N c j : Nat) (x : Int) : ∀ i, ∃ v, HanV1 b y g f N c j x i v
  | 0 => ⟨_, rfl⟩
  | 1 => ⟨_, rfl⟩
  | 2 => ⟨_, rfl⟩
  | 3 => ⟨_, rfl⟩
  | 4 => ⟨_, rfl⟩
  | 5 => ⟨_, rfl⟩
  | 6 => ⟨_, rfl⟩
  | 7 => ⟨_, rfl⟩
  | 8 => ⟨_, rfl⟩
  | 9 => ⟨_, rfl⟩
  | 10 => ⟨_, rfl⟩
  | 11 => ⟨_, rfl⟩
  | 12 => ⟨_, rfl⟩
  | 13 => ⟨_, rfl⟩
  | 14 => ⟨_, rfl⟩
  | 15 => ⟨_, rfl⟩
  | 16 => ⟨_, rfl⟩
  | 17 => ⟨_, rfl⟩
  | 18 => ⟨_, rfl⟩
  | 19 => ⟨_, rfl⟩
  | 20 => ⟨_, rfl⟩
  | 21 => ⟨_, rfl⟩
  | 22 => ⟨_, rfl⟩
  | 23 => ⟨_, rfl⟩
  | 24 => ⟨_, rfl⟩
  | 25 => ⟨_, rfl⟩
  | 26 => ⟨_, rfl⟩
  | 27 => ⟨_, rfl⟩
  | _ + 28 => ⟨undef, trivial⟩

attribute [local go_sem] madeUpon

set_option maxHeartbeats 16000000 in
set_option maxRecDepth 100000 in
theorem minorHandles_walk (a b c d : Int) (ha : By a) (hb : By b) (hc : By c) (hd : By d) (Aq : Option Addr) (n cp : Nat) (w : World) (rd : RdAc w Aq n) (_ : n ≤ cp) (_ : cp ≤ maxLen) :
    Calls Tryz.prog 16 #[.int .u8 a, .int .u8 b, .int .u8 c, .int .u8 d, .slice Aq n cp] w fun e w' => e = .returned (.bool true) ∧ Below w.heap.size w w' := by
  have HC := Lib.hid (config14_any a b c d ha hb hc hd)
  have HM := Lib.hid (cfgOf_may a b c d ha hb hc hd)
  have RD := Lib.hid rd
  clear ha hb hc hd rd
  generalize cfgOf a b c d = cf at *
  go_enter Tryz.func16, Tryz.ntmps16
  go_wp2_with fail
  refine (HC.out _).mono ?_
  rintro e w1 ⟨rfl, b1⟩
  have HN := Lib.hid (km_new (w0 := w) (Z := noZ) HM.out b1 (fun _ e => e.elim))
  clear b1 HC
  go_wp2_with fail
  refine HN.out.mono ?_
  rintro e w2 ⟨b, pt, rfl, k2, _⟩
  have K2 := Lib.hid k2
  clear k2 HN
  go_wp2_with fail
  refine (awake14_walk _).mono ?_
  rintro e w3 ⟨rfl, b3⟩
  have KL : Hid (Ml w w3 b cf 0) := Lib.hid ⟨_, _, K2.out.keep b3, fresh_cyc HM.out pt, rfl, nb_fresh⟩
  clear b3 K2 HM
  go_wp2_with fail
  go_loopw [13] (fun s wr => ∃ (i : Nat), i ≤ n ∧ i ≤ 100 ∧ s = .int .i64 i ∧ Hid (Ml w wr b cf i)) (fun s _ => n - (intOf s).toNat)
  case atStart => exact ⟨0, Nat.zero_le _, Nat.zero_le _, rfl, KL⟩
  case round =>
    clear KL
    obtain ⟨i, hi, hi2, rfl, KL⟩ := hrel
    by_cases hlt : i < n ∧ i < 100
    · obtain ⟨h1, h2⟩ := hlt
      obtain ⟨ad, k, x, p, q, rfl, _, _, iq, hcell⟩ := RD.out i h1
      obtain ⟨s, A, HG, C, ec, nb⟩ := KL.out
      obtain ⟨c0, c1, c2, c3⟩ := hcell _ HG.bel
      have h3 : (i : Int) < (n : Int) := by omega
      have h4 : (i : Int) < 100 := by omega
      have h5 : (0 : Int) ≤ (i : Int) := by omega
      have HD := Lib.hid (do14_any HG C nb (by omega) k x p q iq.2)
      have NB := Lib.hid nb
      have EC := Lib.hid ec
      clear KL HG hcell C nb ec
      go_wp2_with fail
      refine HD.out.mono ?_
      rintro e w4 ⟨s', B, E, rfl, qq, k4, _⟩
      have K4 := Lib.hid k4
      have C4 := Lib.hid qq.cyc
      have N4 := Lib.hid (qq.nb i (by omega) NB.out)
      have E4 := Lib.hid (qq.cf.trans EC.out)
      clear qq k4 HD NB EC c0 c1 c2 c3
      obtain ⟨c18, ha⟩ := km_all K4.out
      have HA := Lib.hid ha
      clear ha K4
      go_wp2_with fail
      refine HA.out.mono ?_
      rintro e w5 ⟨A4, c4, rfl, hi⟩
      have HI := Lib.hid hi
      clear hi HA c18
      obtain ⟨N, NN⟩ : ∃ N, Hid (s'.hs.length = N) := ⟨_, Lib.hid rfl⟩
      have few : Hid (N ≤ 64) := Lib.hid (by obtain ⟨S, hC⟩ := HI.out.1.cr; have := hC.few; rw [NN.out] at this; exact this)
      rw [NN.out] at HI ⊢
      have n64 := few.out
      clear few
      go_wp2_with fail
      generalize wr = wo at *
      go_loopw [15] (fun s15 wr => ∃ (j : Nat), j ≤ N ∧ s15 = .int .i64 j ∧ Hid (HanI w wr b s' A4 N c4)) (fun s15 _ => N - (intOf s15).toNat)
      case atStart => exact ⟨0, Nat.zero_le _, rfl, HI⟩
      case round =>
        clear HI
        obtain ⟨j, hj, rfl, HI⟩ := hrel
        by_cases hlt : j < N
        · obtain ⟨x, hxi⟩ : ∃ x, s'.hs[j]? = some x := ⟨_, List.getElem?_eq_getElem (by rw [NN.out]; exact hlt)⟩
          obtain ⟨gq, off, rfl⟩ := quA_spot HI.out.2 (by omega)
          have MX := Lib.hid (List.mem_of_getElem? hxi)
          have XI := Lib.hid hxi
          have N0 := Lib.hid (show 0 < N by omega)
          have h6 : (j : Int) < (N : Int) := by omega
          have h7 : (0 : Int) ≤ (j : Int) := by omega
          clear hxi
          rcases (show (x != 0) = false ∨ (x != 0) = true by cases (x != 0) <;> simp) with x0 | x0
          · have XB := Lib.hid x0
            clear x0
            go_wp2_with fail
            refine region_made_tailG (fun _ w' => HanI w w' b s' (some ⟨gq, off, none⟩) N c4) (HanV0 b s'.pt.y gq off N c4 j x) 28 (by kernel_rfl) (by kernel_rfl) (HanV0_some _ _ _ _ _ _ _ _) (HI.out.keep (below_drew wr)) ?_
            simp only [List.take_succ_cons, List.take_zero, List.drop_succ_cons, List.drop_zero]
            refine wpMadeG_step ?_ ?_
            · refine .inl ⟨by rfl, ?_⟩
              intro m' w' hg hag
              go_simp
              first | exact rfl | exact ⟨rfl, hg⟩
            intro K hK
            rintro _ rfl
            go_simp
            refine hK _ _ ?_
            clear hK K
            refine wpMadeG_step ?_ ?_
            · refine .inl ⟨by rfl, ?_⟩
              intro m' w' hg hag
              go_simp
              first | exact rfl | exact ⟨rfl, hg⟩
            intro K hK
            rintro _ rfl
            go_simp
            refine hK _ _ ?_
            clear hK K
            refine wpMadeG_step ?_ ?_
            · refine .inl ⟨by rfl, ?_⟩
              intro m' w' hg hag
              go_simp
              first | exact rfl | exact ⟨rfl, hg⟩
            intro K hK
            rintro _ rfl
            go_simp
            refine hK _ _ ?_
            clear hK K
            refine wpMadeG_step ?_ ?_
            · refine .inl ⟨by rfl, ?_⟩
              intro m' w' hg hag
              have q1 := km_c14 hg.1
              go_simp
              first | exact rfl | exact ⟨rfl, hg⟩
            intro K hK
            rintro _ rfl
            go_simp
            refine hK _ _ ?_
            clear hK K
            refine wpMadeG_step ?_ ?_
            · refine .inl ⟨by rfl, ?_⟩
              intro m' w' hg hag
              go_simp
              first | exact rfl | exact ⟨rfl, hg⟩
            intro K hK
            rintro _ rfl
            go_simp
            refine hK _ _ ?_
            clear hK K
            refine wpMadeG_step ?_ ?_
            · refine .inl ⟨by rfl, ?_⟩
              intro m' w' hg hag
              go_simp
              first | exact rfl | exact ⟨rfl, hg⟩
            intro K hK
            rintro _ rfl
            go_simp
            refine hK _ _ ?_
            clear hK K
            refine wpMadeG_step ?_ ?_
            · refine .inl ⟨by rfl, ?_⟩
              intro m' w' hg hag
              go_simp
              first | exact rfl | exact ⟨rfl, hg⟩
            intro K hK
            rintro _ rfl
            go_simp
            refine hK _ _ ?_
            clear hK K
            refine wpMadeG_step ?_ ?_
            · refine .inl ⟨by rfl, ?_⟩
              intro m' w' hg hag
              have q1 := quA_cell hg.2 N0.out XI.out
              go_simp
              first | exact rfl | exact ⟨rfl, hg⟩
            intro K hK
            rintro _ rfl
            go_simp
            refine hK _ _ ?_
            clear hK K
            refine wpMadeG_step ?_ ?_
            · refine .inl ⟨by rfl, ?_⟩
              intro m' w' hg hag
              go_simp
              exact (han_from hg C4.out MX.out).mono fun e w3 ⟨he, b3⟩ => ⟨_, he, rfl, hg.keep b3⟩
            intro K hK
            rintro _ rfl
            go_simp
            refine hK _ _ ?_
            clear hK K
            refine wpMadeG_step ?_ ?_
            · refine .inl ⟨by rfl, ?_⟩
              intro m' w' hg hag
              go_simp
              first | exact rfl | exact ⟨rfl, hg⟩
            intro K hK
            rintro _ rfl
            go_simp
            refine hK _ _ ?_
            clear hK K
            refine wpMadeG_step ?_ ?_
            · refine .inl ⟨by rfl, ?_⟩
              intro m' w' hg hag
              go_simp
              first | exact rfl | exact ⟨rfl, hg⟩
            intro K hK
            rintro _ rfl
            go_simp
            refine hK _ _ ?_
            clear hK K
            refine wpMadeG_step ?_ ?_
            · refine .inl ⟨by rfl, ?_⟩
              intro m' w' hg hag
              go_simp
              first | exact rfl | exact ⟨rfl, hg⟩
            intro K hK
            rintro _ rfl
            go_simp
            refine hK _ _ ?_
            clear hK K
            refine wpMadeG_step ?_ ?_
            · refine .inl ⟨by rfl, ?_⟩
              intro m' w' hg hag
              go_simp
              first | exact rfl | exact ⟨rfl, hg⟩
            intro K hK
            rintro _ rfl
            go_simp
            refine hK _ _ ?_
            clear hK K
            refine wpMadeG_step ?_ ?_
            · refine .inl ⟨by rfl, ?_⟩
              intro m' w' hg hag
              have q1 := quA_cell hg.2 N0.out XI.out
              go_simp
              first | exact rfl | exact ⟨rfl, hg⟩
            intro K hK
            rintro _ rfl
            go_simp
            refine hK _ _ ?_
            clear hK K
            refine wpMadeG_step ?_ ?_
            · refine .inl ⟨by rfl, ?_⟩
              intro m' w' hg hag
              go_simp
              first | (show Value.bool _ = Value.bool _; rw [XB.out]) | exact ⟨by rw [XB.out], hg⟩
            intro K hK
            rintro _ rfl
            go_simp
            refine hK _ _ ?_
            clear hK K
            refine wpMadeG_step ?_ ?_
            · refine .inl ⟨by rfl, ?_⟩
              intro m' w' hg hag
              go_simp
              first | exact rfl | exact ⟨rfl, hg⟩
            intro K hK
            rintro _ rfl
            go_simp
            refine hK _ _ ?_
            clear hK K
            refine wpMadeG_step ?_ ?_
            · exact .inr ⟨by rfl, rfl, fun m' w' hg _ => hg⟩
            intro K hK
            rintro _ rfl
            go_simp
            refine hK _ _ ?_
            clear hK K
            refine wpMadeG_step ?_ ?_
            · exact .inr ⟨by rfl, rfl, fun m' w' hg _ => hg⟩
            intro K hK
            rintro _ rfl
            go_simp
            refine hK _ _ ?_
            clear hK K
            refine wpMadeG_step ?_ ?_
            · exact .inr ⟨by rfl, rfl, fun m' w' hg _ => hg⟩
            intro K hK
            rintro _ rfl
            go_simp
            refine hK _ _ ?_
            clear hK K
            refine wpMadeG_step ?_ ?_
            · exact .inr ⟨by rfl, rfl, fun m' w' hg _ => hg⟩
            intro K hK
            rintro _ rfl
            go_simp
            refine hK _ _ ?_
            clear hK K
            refine wpMadeG_step ?_ ?_
            · exact .inr ⟨by rfl, rfl, fun m' w' hg _ => hg⟩
            intro K hK
            rintro _ rfl
            go_simp
            refine hK _ _ ?_
            clear hK K
            refine wpMadeG_step ?_ ?_
            · exact .inr ⟨by rfl, rfl, fun m' w' hg _ => hg⟩
            intro K hK
            rintro _ rfl
            go_simp
            refine hK _ _ ?_
            clear hK K
            refine wpMadeG_step ?_ ?_
            · exact .inr ⟨by rfl, rfl, fun m' w' hg _ => hg⟩
            intro K hK
            rintro _ rfl
            go_simp
            refine hK _ _ ?_
            clear hK K
            refine wpMadeG_step ?_ ?_
            · exact .inr ⟨by rfl, rfl, fun m' w' hg _ => hg⟩
            intro K hK
            rintro _ rfl
            go_simp
            refine hK _ _ ?_
            clear hK K
            refine wpMadeG_step ?_ ?_
            · exact .inr ⟨by rfl, rfl, fun m' w' hg _ => hg⟩
            intro K hK
            rintro _ rfl
            go_simp
            refine hK _ _ ?_
            clear hK K
            refine wpMadeG_step ?_ ?_
            · exact .inr ⟨by rfl, rfl, fun m' w' hg _ => hg⟩
            intro K hK
            rintro _ rfl
            go_simp
            refine hK _ _ ?_
            clear hK K
            refine wpMadeG_step ?_ ?_
            · exact .inr ⟨by rfl, rfl, fun m' w' hg _ => hg⟩
            intro K hK
            rintro _ rfl
            go_simp
            refine hK _ _ ?_
            clear hK K
            refine wpMadeG_step ?_ ?_
            · refine .inl ⟨by rfl, ?_⟩
              intro m' w' hg hag
              go_simp
              first | exact rfl | exact ⟨rfl, hg⟩
            intro K hK
            rintro _ rfl
            go_simp
            refine hK _ _ ?_
            clear hK K
            refine wpMadeG_nil ?_
            intro w' hg
            have KN := Lib.hid hg
            clear hg HI
            go_wp2
            go_roundw
            case rel => exact ⟨j + 1, by omega, by go_num, KN⟩
            case measure => simp [intOf]; omega
          · have XB := Lib.hid x0
            clear x0
            go_wp2_with fail
            refine region_made_tailG (fun _ w' => HanI w w' b s' (some ⟨gq, off, none⟩) N c4) (HanV1 b s'.pt.y gq off N c4 j x) 28 (by kernel_rfl) (by kernel_rfl) (HanV1_some _ _ _ _ _ _ _ _) (HI.out.keep (below_drew wr)) ?_
            simp only [List.take_succ_cons, List.take_zero, List.drop_succ_cons, List.drop_zero]
            refine wpMadeG_step ?_ ?_
            · refine .inl ⟨by rfl, ?_⟩
              intro m' w' hg hag
              go_simp
              first | exact rfl | exact ⟨rfl, hg⟩
            intro K hK
            rintro _ rfl
            go_simp
            refine hK _ _ ?_
            clear hK K
            refine wpMadeG_step ?_ ?_
            · refine .inl ⟨by rfl, ?_⟩
              intro m' w' hg hag
              go_simp
              first | exact rfl | exact ⟨rfl, hg⟩
            intro K hK
            rintro _ rfl
            go_simp
            refine hK _ _ ?_
            clear hK K
            refine wpMadeG_step ?_ ?_
            · refine .inl ⟨by rfl, ?_⟩
              intro m' w' hg hag
              go_simp
              first | exact rfl | exact ⟨rfl, hg⟩
            intro K hK
            rintro _ rfl
            go_simp
            refine hK _ _ ?_
            clear hK K
            refine wpMadeG_step ?_ ?_
            · refine .inl ⟨by rfl, ?_⟩
              intro m' w' hg hag
              have q1 := km_c14 hg.1
              go_simp
              first | exact rfl | exact ⟨rfl, hg⟩
            intro K hK
            rintro _ rfl
            go_simp
            refine hK _ _ ?_
            clear hK K
            refine wpMadeG_step ?_ ?_
            · refine .inl ⟨by rfl, ?_⟩
              intro m' w' hg hag
              go_simp
              first | exact rfl | exact ⟨rfl, hg⟩
            intro K hK
            rintro _ rfl
            go_simp
            refine hK _ _ ?_
            clear hK K
            refine wpMadeG_step ?_ ?_
            · refine .inl ⟨by rfl, ?_⟩
              intro m' w' hg hag
              go_simp
              first | exact rfl | exact ⟨rfl, hg⟩
            intro K hK
            rintro _ rfl
            go_simp
            refine hK _ _ ?_
            clear hK K
            refine wpMadeG_step ?_ ?_
            · refine .inl ⟨by rfl, ?_⟩
              intro m' w' hg hag
              go_simp
              first | exact rfl | exact ⟨rfl, hg⟩
            intro K hK
            rintro _ rfl
            go_simp
            refine hK _ _ ?_
            clear hK K
            refine wpMadeG_step ?_ ?_
            · refine .inl ⟨by rfl, ?_⟩
              intro m' w' hg hag
              have q1 := quA_cell hg.2 N0.out XI.out
              go_simp
              first | exact rfl | exact ⟨rfl, hg⟩
            intro K hK
            rintro _ rfl
            go_simp
            refine hK _ _ ?_
            clear hK K
            refine wpMadeG_step ?_ ?_
            · refine .inl ⟨by rfl, ?_⟩
              intro m' w' hg hag
              go_simp
              exact (han_from hg C4.out MX.out).mono fun e w3 ⟨he, b3⟩ => ⟨_, he, rfl, hg.keep b3⟩
            intro K hK
            rintro _ rfl
            go_simp
            refine hK _ _ ?_
            clear hK K
            refine wpMadeG_step ?_ ?_
            · refine .inl ⟨by rfl, ?_⟩
              intro m' w' hg hag
              go_simp
              first | exact rfl | exact ⟨rfl, hg⟩
            intro K hK
            rintro _ rfl
            go_simp
            refine hK _ _ ?_
            clear hK K
            refine wpMadeG_step ?_ ?_
            · refine .inl ⟨by rfl, ?_⟩
              intro m' w' hg hag
              go_simp
              first | exact rfl | exact ⟨rfl, hg⟩
            intro K hK
            rintro _ rfl
            go_simp
            refine hK _ _ ?_
            clear hK K
            refine wpMadeG_step ?_ ?_
            · refine .inl ⟨by rfl, ?_⟩
              intro m' w' hg hag
              go_simp
              first | exact rfl | exact ⟨rfl, hg⟩
            intro K hK
            rintro _ rfl
            go_simp
            refine hK _ _ ?_
            clear hK K
            refine wpMadeG_step ?_ ?_
            · refine .inl ⟨by rfl, ?_⟩
              intro m' w' hg hag
              go_simp
              first | exact rfl | exact ⟨rfl, hg⟩
            intro K hK
            rintro _ rfl
            go_simp
            refine hK _ _ ?_
            clear hK K
            refine wpMadeG_step ?_ ?_
            · refine .inl ⟨by rfl, ?_⟩
              intro m' w' hg hag
              have q1 := quA_cell hg.2 N0.out XI.out
              go_simp
              first | exact rfl | exact ⟨rfl, hg⟩
            intro K hK
            rintro _ rfl
            go_simp
            refine hK _ _ ?_
            clear hK K
            refine wpMadeG_step ?_ ?_
            · refine .inl ⟨by rfl, ?_⟩
              intro m' w' hg hag
              go_simp
              first | (show Value.bool _ = Value.bool _; rw [XB.out]) | exact ⟨by rw [XB.out], hg⟩
            intro K hK
            rintro _ rfl
            go_simp
            refine hK _ _ ?_
            clear hK K
            refine wpMadeG_step ?_ ?_
            · refine .inl ⟨by rfl, ?_⟩
              intro m' w' hg hag
              go_simp
              first | exact rfl | exact ⟨rfl, hg⟩
            intro K hK
            rintro _ rfl
            go_simp
            refine hK _ _ ?_
            clear hK K
            refine wpMadeG_step ?_ ?_
            · refine .inl ⟨by rfl, ?_⟩
              intro m' w' hg hag
              go_simp
              first | exact rfl | exact ⟨rfl, hg⟩
            intro K hK
            rintro _ rfl
            go_simp
            refine hK _ _ ?_
            clear hK K
            refine wpMadeG_step ?_ ?_
            · refine .inl ⟨by rfl, ?_⟩
              intro m' w' hg hag
              go_simp
              first | exact rfl | exact ⟨rfl, hg⟩
            intro K hK
            rintro _ rfl
            go_simp
            refine hK _ _ ?_
            clear hK K
            refine wpMadeG_step ?_ ?_
            · refine .inl ⟨by rfl, ?_⟩
              intro m' w' hg hag
              go_simp
              first | exact rfl | exact ⟨rfl, hg⟩
            intro K hK
            rintro _ rfl
            go_simp
            refine hK _ _ ?_
            clear hK K
            refine wpMadeG_step ?_ ?_
            · refine .inl ⟨by rfl, ?_⟩
              intro m' w' hg hag
              go_simp
              first | exact rfl | exact ⟨rfl, hg⟩
            intro K hK
            rintro _ rfl
            go_simp
            refine hK _ _ ?_
            clear hK K
            refine wpMadeG_step ?_ ?_
            · refine .inl ⟨by rfl, ?_⟩
              intro m' w' hg hag
              have q1 := quA_cell hg.2 N0.out XI.out
              go_simp
              first | exact rfl | exact ⟨rfl, hg⟩
            intro K hK
            rintro _ rfl
            go_simp
            refine hK _ _ ?_
            clear hK K
            refine wpMadeG_step ?_ ?_
            · refine .inl ⟨by rfl, ?_⟩
              intro m' w' hg hag
              go_simp
              exact (han_now hg C4.out MX.out).mono fun e w3 ⟨he, h3⟩ => ⟨_, he, rfl, h3⟩
            intro K hK
            rintro _ rfl
            go_simp
            refine hK _ _ ?_
            clear hK K
            refine wpMadeG_step ?_ ?_
            · refine .inl ⟨by rfl, ?_⟩
              intro m' w' hg hag
              go_simp
              first | exact rfl | exact ⟨rfl, hg⟩
            intro K hK
            rintro _ rfl
            go_simp
            refine hK _ _ ?_
            clear hK K
            refine wpMadeG_step ?_ ?_
            · refine .inl ⟨by rfl, ?_⟩
              intro m' w' hg hag
              go_simp
              first | exact rfl | exact ⟨rfl, hg⟩
            intro K hK
            rintro _ rfl
            go_simp
            refine hK _ _ ?_
            clear hK K
            refine wpMadeG_step ?_ ?_
            · refine .inl ⟨by rfl, ?_⟩
              intro m' w' hg hag
              go_simp
              first | exact rfl | exact ⟨rfl, hg⟩
            intro K hK
            rintro _ rfl
            go_simp
            refine hK _ _ ?_
            clear hK K
            refine wpMadeG_step ?_ ?_
            · refine .inl ⟨by rfl, ?_⟩
              intro m' w' hg hag
              have q1 := quA_cell hg.2 N0.out XI.out
              go_simp
              first | exact rfl | exact ⟨rfl, hg⟩
            intro K hK
            rintro _ rfl
            go_simp
            refine hK _ _ ?_
            clear hK K
            refine wpMadeG_step ?_ ?_
            · refine .inl ⟨by rfl, ?_⟩
              intro m' w' hg hag
              go_simp
              first | (show Value.bool _ = Value.bool _; simp) | exact ⟨by simp, hg⟩
            intro K hK
            rintro _ rfl
            go_simp
            refine hK _ _ ?_
            clear hK K
            refine wpMadeG_step ?_ ?_
            · refine .inl ⟨by rfl, ?_⟩
              intro m' w' hg hag
              go_simp
              first | exact rfl | exact ⟨rfl, hg⟩
            intro K hK
            rintro _ rfl
            go_simp
            refine hK _ _ ?_
            clear hK K
            refine wpMadeG_nil ?_
            intro w' hg
            have KN := Lib.hid hg
            clear hg HI
            go_wp2
            go_roundw
            case rel => exact ⟨j + 1, by omega, by go_num, KN⟩
            case measure => simp [intOf]; omega
        · have h6 : ¬ ((j : Int) < (N : Int)) := by omega
          have K := HI.out.1.grow (Z' := noZ) (Below.refl _ _) fun _ e => e.elim
          have c21 := km_moving K
          cases hm : s'.mv
          · have c14 := km_c14 K
            have HL := Lib.hid (km_left K C4.out hm)
            rw [hm] at c21
            have K6 := Lib.hid K
            clear K HI
            go_wp2_with fail
            refine HL.out.mono ?_
            rintro e v1 ⟨rfl, b6⟩
            have KN : Hid (Ml w v1 b cf (i + 1)) := Lib.hid ⟨s', B, K6.out.keep b6, C4.out, E4.out, N4.out⟩
            clear b6 HL K6 c14 c21
            go_wp2
            go_roundw
            case rel => exact ⟨i + 1, by omega, by omega, by go_num, KN⟩
            case measure => simp [intOf]; omega
          · rw [hm] at c21
            have KN : Hid (Ml w wr b cf (i + 1)) := Lib.hid ⟨s', B, K, C4.out, E4.out, N4.out⟩
            clear K HI
            go_wp2
            go_roundw
            case rel => exact ⟨i + 1, by omega, by omega, by go_num, KN⟩
            case measure => simp [intOf]; omega
    · have hlt : ((i : Int) < (n : Int) ∧ ¬ ((i : Int) < 100)) ∨ ¬ ((i : Int) < (n : Int)) := by omega
      obtain ⟨s, A, K, _⟩ := KL.out
      have BE := Lib.hid K.bel
      clear K KL RD hi hi2
      rcases hlt with ⟨g1, g2⟩ | g1
      all_goals
        go_wp2
        go_ret
        exact ⟨rfl, BE.out⟩
end Gc
end Go.Proofs.YthmhehehomieiaaGreat

/- The walk of MinorEnds. -/
namespace Go.Proofs.YthmhehehomieiaaGreat
namespace Gc
open Go.RowKit

section
variable {w0 w w' : World} {Z : Nat → Prop} {b : Nat} {s : Co} {A : Hp} {S : Nat → Prop}

/-- How much is left is little. -/
theorem left_few (hC : Cr w b S s) (c : Cyc s A) : (left_ s A : Int) ≤ 2 * s.cf.nu + s.cf.bf + s.cf.ps * s.cf.pz + 1 := by
  have few := c.sim.few
  have hu := c.sim.laid.used
  have h2 := few_sum (A := A) A.F fun q hq => (c.inv.dom q).2 (.inl hq)
  have h3 := c.sim.laid.hf.use
  obtain ⟨P, own, h0, rfl, rfl⟩ := hC
  obtain ⟨p, hp, ho⟩ := h0.prt 4
  obtain ⟨mb, ht, _⟩ := hp.look.tab
  obtain ⟨Ab, cb, hb, _⟩ := hp.look.buf
  have f1 := hb.few
  have m := marks_in ht.w0 ht.w1 ht.c0
  have ml := ht.len
  have mx : (s.cf.ps * s.cf.pz + s.cf.cd - 1) / s.cf.cd ≤ s.cf.ps * s.cf.pz + 1 := by
    have c0 := ht.c0
    have w0 := ht.w0
    have e := m.2.2.2
    have q0 := m.1
    generalize (s.cf.ps * s.cf.pz + s.cf.cd - 1) / s.cf.cd = q at *
    generalize s.cf.ps * s.cf.pz = W at *
    by_cases z : q ≤ 1
    · omega
    · have k1 : (q - 1) * 1 ≤ (q - 1) * s.cf.cd := Int.mul_le_mul_of_nonneg_left (by omega) (by omega)
      have k2 : q * s.cf.cd = (q - 1) * s.cf.cd + s.cf.cd := by rw [Int.sub_mul, Int.one_mul]; omega
      omega
  have cl := List.count_le_length (a := true) (l := s.rm)
  unfold left_
  omega

/-- The cycle is finished: so far i steps. -/
def FinI (w0 w : World) (b wb : Nat) (cf : Cfg) (m0 t0 : Int) (L : Nat) (mv0 : Bool) (i : Nat) (mv : Bool) : Prop :=
  ∃ s A, Km w0 w (fun k => k = wb) b s ∧ Cyc s A ∧ s.cf = cf ∧ s.mv = mv ∧ s.tot ≤ t0 ∧ (mv = true → mv0 = true ∧ left_ s A + i ≤ L ∧ s.d.mi = m0) ∧ (mv = false → s.d.mi = if mv0 = true then m0 + 1 else m0)

section
variable {wb : Nat} {cf : Cfg} {m0 t0 : Int} {L i : Nat} {mv0 mv : Bool}
theorem FinI.moving (h : FinI w0 w b wb cf m0 t0 L mv0 i mv) : w.cell? ⟨b, 21, none⟩ = some (.bool mv) := by
  obtain ⟨s, A, k, _, _, rfl, _⟩ := h
  exact km_moving k
theorem FinI.few (h : FinI w0 w b wb cf m0 t0 L mv0 i true) : i ≤ L := by
  obtain ⟨s, A, k, _, _, _, _, h1, _⟩ := h
  have := (h1 rfl).2.1
  omega
theorem FinI.step (h : FinI w0 w b wb cf m0 t0 L mv0 i true) (hm0 : 0 ≤ m0) (hm1 : m0 ≤ 1000000) :
    Calls Tryz.prog 50 #[ptr b] w fun e w' => ∃ n y, e = .returned (.tuple #[.int .i64 n, .bool y]) ∧ 1 ≤ n ∧ FinI w0 w' b wb cf m0 t0 L mv0 (i + 1) y ∧ Kp (fun k => k = wb) w w' := by
  obtain ⟨s, A, k, c, e1, hm, t1, h1, _⟩ := h
  obtain ⟨h0, h1, h2⟩ := h1 rfl
  refine (km_step k c).mono ?_
  rintro e w' ⟨s', B, n, y, he, q, k2, p2⟩
  obtain ⟨n1, _, q1, q2⟩ := q.yes hm
  refine ⟨n, y, he, n1, ⟨s', B, k2, q.cyc, q.cf.trans e1, q.mv, Int.le_trans q.tot t1, fun e => ?_, fun e => ?_⟩, p2⟩
  · obtain ⟨a1, a2, _⟩ := q1 e
    exact ⟨h0, by omega, by rw [a2]; exact h2⟩
  · rw [(q2 e).1, h2, if_pos h0]
    unfold wrap64
    omega

/-- The end: two Stats beside the core. -/
structure EndG (w0 w : World) (b y wb sb : Nat) (cf : Cfg) (s0 s : Int × Int × Int × Int × Int × Int × Int × Int) : Prop where
  ex : ∃ t A, Km w0 w (fun k => k = wb ∨ k = sb) b t ∧ Cyc t A ∧ t.cf = cf ∧ t.mv = false ∧ t.cop = 0 ∧ t.pt.y = y
  x0 : Blk w wb (stL8 s0.1 s0.2.1 s0.2.2.1 s0.2.2.2.1 s0.2.2.2.2.1 s0.2.2.2.2.2.1 s0.2.2.2.2.2.2.1 s0.2.2.2.2.2.2.2) 31
  x1 : Blk w sb (stL8 s.1 s.2.1 s.2.2.1 s.2.2.2.1 s.2.2.2.2.1 s.2.2.2.2.2.1 s.2.2.2.2.2.2.1 s.2.2.2.2.2.2.2) 31

section
variable {y sb : Nat} {s0 s1 : Int × Int × Int × Int × Int × Int × Int × Int}
theorem EndG.keep (h : EndG w0 w b y wb sb cf s0 s1) (f : Below w.heap.size w w') : EndG w0 w' b y wb sb cf s0 s1 := by
  obtain ⟨⟨t, A, k, r⟩, x0, x1⟩ := h
  exact ⟨⟨t, A, k.keep f, r⟩, x0.keep f, x1.keep f⟩
theorem EndG.c21 (h : EndG w0 w b y wb sb cf s0 s1) : w.cell? ⟨b, 21, none⟩ = some (.bool false) := by
  obtain ⟨⟨t, A, k, _, _, hm, _⟩, _⟩ := h
  rw [← hm]; exact km_moving k
theorem EndG.c14 (h : EndG w0 w b y wb sb cf s0 s1) : w.cell? ⟨b, 14, none⟩ = some (bpP y) := by
  obtain ⟨⟨t, A, k, _, _, _, _, rfl⟩, _⟩ := h
  exact km_c14 k
theorem EndG.c23 (h : EndG w0 w b y wb sb cf s0 s1) : w.cell? ⟨b, 23, none⟩ = some (.int .i64 0) := by
  obtain ⟨⟨t, A, k, _, _, _, hc, _⟩, _⟩ := h
  obtain ⟨S, hC⟩ := k.cr
  rw [c23_of hC, hc]
theorem EndG.c2 (h : EndG w0 w b y wb sb cf s0 s1) : w.cell? ⟨b, 2, none⟩ = some (.int .i64 cf.ps) := by
  obtain ⟨⟨t, A, k, _, rfl, _⟩, _⟩ := h
  obtain ⟨S, hC⟩ := k.cr
  obtain ⟨_, _, _, _, hc, _⟩ := hC.cell
  exact hc 2
theorem EndG.c3 (h : EndG w0 w b y wb sb cf s0 s1) : w.cell? ⟨b, 3, none⟩ = some (.int .i64 cf.pz) := by
  obtain ⟨⟨t, A, k, _, rfl, _⟩, _⟩ := h
  obtain ⟨S, hC⟩ := k.cr
  obtain ⟨_, _, _, _, hc, _⟩ := hC.cell
  exact hc 3
theorem EndG.left (h : EndG w0 w b y wb sb cf s0 s1) : Calls Tryz.prog 51 #[bpP y] w fun e w' => e = .returned (.int .i64 0) ∧ Below w.heap.size w w' := by
  obtain ⟨⟨t, A, k, c, _, hm, _, rfl⟩, _⟩ := h
  exact km_left k c hm
theorem EndG.bel (h : EndG w0 w b y wb sb cf s0 s1) : Below w0.heap.size w0 w := by
  obtain ⟨⟨t, A, k, _⟩, _⟩ := h
  exact k.bel
theorem EndG.w5 (h : EndG w0 w b y wb sb cf s0 s1) : w.cell? ⟨wb, 5, none⟩ = some (.int .i64 s0.2.2.2.2.2.1) := h.x0.cell 5
theorem EndG.w6 (h : EndG w0 w b y wb sb cf s0 s1) : w.cell? ⟨wb, 6, none⟩ = some (.int .i64 s0.2.2.2.2.2.2.1) := h.x0.cell 6
theorem EndG.w3 (h : EndG w0 w b y wb sb cf s0 s1) : w.cell? ⟨wb, 3, none⟩ = some (.int .i64 s0.2.2.2.1) := h.x0.cell 3
theorem EndG.s5 (h : EndG w0 w b y wb sb cf s0 s1) : w.cell? ⟨sb, 5, none⟩ = some (.int .i64 s1.2.2.2.2.2.1) := h.x1.cell 5
theorem EndG.s6 (h : EndG w0 w b y wb sb cf s0 s1) : w.cell? ⟨sb, 6, none⟩ = some (.int .i64 s1.2.2.2.2.2.2.1) := h.x1.cell 6
theorem EndG.s3 (h : EndG w0 w b y wb sb cf s0 s1) : w.cell? ⟨sb, 3, none⟩ = some (.int .i64 s1.2.2.2.1) := h.x1.cell 3
end
end
end

theorem Blk.set8 {w1 : World} {k : Nat} {t : TypeId} {u0 u1 u2 u3 u4 u5 u6 u7 : Value} (h : Blk w1 k #[u0, u1, u2, u3, u4, u5, u6, u7] t) (v0 v1 v2 v3 v4 v5 v6 v7 : Value) :
    Blk ((((((((w1.setCell ⟨k, 0, none⟩ v0).setCell ⟨k, 1, none⟩ v1).setCell ⟨k, 2, none⟩ v2).setCell ⟨k, 3, none⟩ v3).setCell ⟨k, 4, none⟩ v4).setCell ⟨k, 5, none⟩ v5).setCell ⟨k, 6, none⟩ v6).setCell ⟨k, 7, none⟩ v7) k #[v0, v1, v2, v3, v4, v5, v6, v7] t := by
  have e := (((((((h.set_ 0 v0).set_ 1 v1).set_ 2 v2).set_ 3 v3).set_ 4 v4).set_ 5 v5).set_ 6 v6).set_ 7 v7
  simpa only [List.setIfInBounds_toArray, List.set_cons_zero, List.set_cons_succ] using e
theorem Blk.eight {w : World} {b : Nat} {t : TypeId} {v0 v1 v2 v3 v4 v5 v6 v7 : Value} (h : Blk w b #[v0, v1, v2, v3, v4, v5, v6, v7] t) :
    w.cell? ⟨b, 0, none⟩ = some v0 ∧ w.cell? ⟨b, 1, none⟩ = some v1 ∧ w.cell? ⟨b, 2, none⟩ = some v2 ∧ w.cell? ⟨b, 3, none⟩ = some v3 ∧ w.cell? ⟨b, 4, none⟩ = some v4 ∧ w.cell? ⟨b, 5, none⟩ = some v5 ∧ w.cell? ⟨b, 6, none⟩ = some v6 ∧ w.cell? ⟨b, 7, none⟩ = some v7 ∧ (∀ i, w.frozen? ⟨b, i, none⟩ = false) := ⟨h.cell 0, h.cell 1, h.cell 2, h.cell 3, h.cell 4, h.cell 5, h.cell 6, h.cell 7, h.frozen⟩
theorem Frm.set8 {T : Nat → Prop} {w w1 : World} (f : Frm T w w1) (k : Nat) (hk : T k) (v0 v1 v2 v3 v4 v5 v6 v7 : Value) :
    Frm T w ((((((((w1.setCell ⟨k, 0, none⟩ v0).setCell ⟨k, 1, none⟩ v1).setCell ⟨k, 2, none⟩ v2).setCell ⟨k, 3, none⟩ v3).setCell ⟨k, 4, none⟩ v4).setCell ⟨k, 5, none⟩ v5).setCell ⟨k, 6, none⟩ v6).setCell ⟨k, 7, none⟩ v7) :=
  (((((((f.setCell (p := ⟨k, 0, none⟩) (fun _ => hk) _).setCell (p := ⟨k, 1, none⟩) (fun _ => hk) _).setCell (p := ⟨k, 2, none⟩) (fun _ => hk) _).setCell (p := ⟨k, 3, none⟩) (fun _ => hk) _).setCell (p := ⟨k, 4, none⟩) (fun _ => hk) _).setCell (p := ⟨k, 5, none⟩) (fun _ => hk) _).setCell (p := ⟨k, 6, none⟩) (fun _ => hk) _).setCell (p := ⟨k, 7, none⟩) (fun _ => hk) _

/-- A core beside a box that is made, and written to, in a region. -/
def EwG (w0 : World) (b : Nat) (s : Co) (m : Made) (w' : World) : Prop := match m 6 with
  | none => Km w0 w' noZ b s ∧ m 7 = none
  | some v => ∃ k : Nat, v = .pointer (some ⟨k, 0, none⟩) ∧ Km w0 w' (fun j => j = k) b s ∧ Blk w' k (match m 7 with | none => stL8 0 0 0 0 0 0 0 0 | some _ => stL8 s.d.al s.d.wd s.d.pr s.d.mi s.d.ma (s.yu + s.yv) s.used (s.cf.ps * s.cf.pz - s.used)) 31
theorem EwG.pure {w0 w' : World} {b : Nat} {s : Co} {m : Made} (h : EwG w0 b s m w') (i : Nat) (v : Value) (hi : i ≠ 6) (hj : i ≠ 7) : EwG w0 b s (m.upd i v) w' := by
  unfold EwG at h ⊢
  rwa [show m.upd i v 6 = m 6 from if_neg (Ne.symm hi), show m.upd i v 7 = m 7 from if_neg (Ne.symm hj)]
theorem EwG.keep {w0 w' w2 : World} {b : Nat} {s : Co} {m : Made} (h : EwG w0 b s m w') (f : Below w'.heap.size w' w2) : EwG w0 b s m w2 := by
  unfold EwG at h ⊢
  cases e : m 6 with
  | none => rw [e] at h; exact ⟨Km.keep h.1 f, h.2⟩
  | some v =>
    rw [e] at h
    obtain ⟨k, e, h1, h2⟩ := h
    exact ⟨k, e, h1.keep f, h2.keep f⟩
theorem EwG.km {w0 w' : World} {b : Nat} {s : Co} {m : Made} (h : EwG w0 b s m w') : ∃ Z, Km w0 w' Z b s := by
  unfold EwG at h
  cases e : m 6 with
  | none => rw [e] at h; exact ⟨_, h.1⟩
  | some v =>
    rw [e] at h
    obtain ⟨k, e, h1, h2⟩ := h
    exact ⟨_, h1⟩
theorem EwG.made {w0 w' : World} {b : Nat} {s : Co} {m : Made} (h : EwG w0 b s m w') (h6 : m 6 = none) : EwG w0 b s (m.upd 6 (.pointer (some ⟨w'.heap.size, 0, none⟩))) (w'.alloc (stO8 0 0 0 0 0 0 0 0)) := by
  unfold EwG at h ⊢
  rw [h6] at h
  rw [show m.upd 6 (.pointer (some ⟨w'.heap.size, 0, none⟩)) 6 = some (.pointer (some ⟨w'.heap.size, 0, none⟩)) from if_pos rfl, show m.upd 6 (.pointer (some ⟨w'.heap.size, 0, none⟩)) 7 = none from (if_neg (by decide)).trans h.2]
  exact ⟨w'.heap.size, rfl, Km.grow h.1 ((Below.refl _ w').alloc (Nat.le_refl _) _) fun k hk => .inr ⟨by omega, by subst hk; simp⟩, Blk.new w' _ _⟩
theorem EwG.six {w0 w' : World} {b k : Nat} {s : Co} {m : Made} (h : EwG w0 b s m w') (h6 : m 6 = some (.pointer (some ⟨k, 0, none⟩))) (h7 : m 7 = none) : Km w0 w' (fun j => j = k) b s ∧ Blk w' k (stL8 0 0 0 0 0 0 0 0) 31 := by
  unfold EwG at h
  rw [h6, h7] at h
  obtain ⟨k', e, h1, h2⟩ := h
  cases e
  exact ⟨h1, h2⟩
theorem EwG.done {w0 w' : World} {b k : Nat} {s : Co} {m : Made} {u : Value} (h : EwG w0 b s m w') (h6 : m 6 = some (.pointer (some ⟨k, 0, none⟩))) (h7 : m 7 = some u) : Km w0 w' (fun j => j = k) b s ∧ Blk w' k (stL8 s.d.al s.d.wd s.d.pr s.d.mi s.d.ma (s.yu + s.yv) s.used (s.cf.ps * s.cf.pz - s.used)) 31 := by
  unfold EwG at h
  rw [h6, h7] at h
  obtain ⟨k', e, h1, h2⟩ := h
  cases e
  exact ⟨h1, h2⟩
theorem EwG.stored {w0 w' : World} {b k : Nat} {s : Co} {m : Made} {u : Value} (h : EwG w0 b s m w') (h6 : m 6 = some (.pointer (some ⟨k, 0, none⟩))) (h7 : m 7 = none) :
    EwG w0 b s (m.upd 7 u) ((((((((w'.setCell ⟨k, 0, none⟩ (.int .i64 s.d.al)).setCell ⟨k, 1, none⟩ (.int .i64 s.d.wd)).setCell ⟨k, 2, none⟩ (.int .i64 s.d.pr)).setCell ⟨k, 3, none⟩ (.int .i64 s.d.mi)).setCell ⟨k, 4, none⟩ (.int .i64 s.d.ma)).setCell ⟨k, 5, none⟩ (.int .i64 (s.yu + s.yv))).setCell ⟨k, 6, none⟩ (.int .i64 s.used)).setCell ⟨k, 7, none⟩ (.int .i64 (s.cf.ps * s.cf.pz - s.used))) := by
  obtain ⟨h1, h2⟩ := h.six h6 h7
  unfold EwG
  rw [show m.upd 7 u 6 = some (.pointer (some ⟨k, 0, none⟩)) from (if_neg (by decide)).trans h6, show m.upd 7 u 7 = some u from if_pos rfl]
  exact ⟨k, rfl, h1.write ((Frm.refl (fun j => j = k) w').set8 k rfl _ _ _ _ _ _ _ _) (fun _ _ e => e) (fun _ e => .inl e), h2.set8 _ _ _ _ _ _ _ _⟩

def EndV (b y wb sb : Nat) (y1 o1 y0 o0 pp qq : Int) : Nat → Value → Prop
  | 0 => fun v => v = ptr b
  | 1 => fun v => v = ptr b
  | 2 => fun v => v = .pointer (some ⟨b, 21, none⟩)
  | 3 => fun v => v = .bool false
  | 4 => fun v => v = .bool false
  | 5 => fun v => v = ptr b
  | 6 => fun v => v = ptr b
  | 7 => fun v => v = .pointer (some ⟨b, 14, none⟩)
  | 8 => fun v => v = bpP y
  | 9 => fun v => v = .int .i64 0
  | 10 => fun v => v = .bool false
  | 11 => fun v => v = .bool false
  | 12 => fun v => v = .bool false
  | 13 => fun v => v = ptr b
  | 14 => fun v => v = ptr b
  | 15 => fun v => v = .pointer (some ⟨b, 23, none⟩)
  | 16 => fun v => v = .int .i64 0
  | 17 => fun v => v = .bool false
  | 18 => fun v => v = .bool false
  | 19 => fun v => v = .bool false
  | 20 => fun v => v = .int .i64 0
  | 21 => fun v => v = .bool false
  | 22 => fun v => v = .bool false
  | 23 => fun v => v = .bool false
  | 24 => fun v => v = .bool false
  | 25 => fun v => v = .bool false
  | 26 => fun v => v = .bool false
  | 27 => fun v => v = .pointer (some ⟨sb, 5, none⟩)
  | 28 => fun v => v = .int .i64 y1
  | 29 => fun v => v = .pointer (some ⟨wb, 5, none⟩)
  | 30 => fun v => v = .int .i64 y0
  | 31 => fun v => v = .bool false
  | 32 => fun v => v = .bool false
  | 33 => fun v => v = .bool false
  | 34 => fun v => v = .pointer (some ⟨sb, 5, none⟩)
  | 35 => fun v => v = .int .i64 y1
  | 36 => fun v => v = .pointer (some ⟨sb, 6, none⟩)
  | 37 => fun v => v = .int .i64 o1
  | 38 => fun v => v = .int .i64 (y1 + o1)
  | 39 => fun v => v = .pointer (some ⟨wb, 5, none⟩)
  | 40 => fun v => v = .int .i64 y0
  | 41 => fun v => v = .pointer (some ⟨wb, 6, none⟩)
  | 42 => fun v => v = .int .i64 o0
  | 43 => fun v => v = .int .i64 (y0 + o0)
  | 44 => fun v => v = ptr b
  | 45 => fun v => v = ptr b
  | 46 => fun v => v = .pointer (some ⟨b, 0, none⟩)
  | 47 => fun v => v = .pointer (some ⟨b, 2, none⟩)
  | 48 => fun v => v = .int .i64 pp
  | 49 => fun v => v = ptr b
  | 50 => fun v => v = ptr b
  | 51 => fun v => v = .pointer (some ⟨b, 0, none⟩)
  | 52 => fun v => v = .pointer (some ⟨b, 3, none⟩)
  | 53 => fun v => v = .int .i64 qq
  | 54 => fun v => v = .int .i64 (pp * qq)
  | 55 => fun v => v = .int .i64 (y0 + o0 + pp * qq)
  | 56 => fun v => v = .bool false
  | _ => fun _ => True
theorem EndV_some (b y wb sb : Nat) (y1 o1 y0 o0 pp qq : Int) : ∀ i, ∃ v, EndV b y wb sb y1 o1 y0 o0 pp qq i v
  | 0 => ⟨_, rfl⟩
  | 1 => ⟨_, rfl⟩
  | 2 => ⟨_, rfl⟩
  | 3 => ⟨_, rfl⟩
  | 4 => ⟨_, rfl⟩
  | 5 => ⟨_, rfl⟩
  | 6 => ⟨_, rfl⟩
  | 7 => ⟨_, rfl⟩
  | 8 => ⟨_, rfl⟩
  | 9 => ⟨_, rfl⟩
  | 10 => ⟨_, rfl⟩
  | 11 => ⟨_, rfl⟩
  | 12 => ⟨_, rfl⟩
  | 13 => ⟨_, rfl⟩
  | 14 => ⟨_, rfl⟩
  | 15 => ⟨_, rfl⟩
  | 16 => ⟨_, rfl⟩
  | 17 => ⟨_, rfl⟩
  | 18 => ⟨_, rfl⟩
  | 19 => ⟨_, rfl⟩
  | 20 => ⟨_, rfl⟩
  | 21 => ⟨_, rfl⟩
  | 22 => ⟨_, rfl⟩
  | 23 => ⟨_, rfl⟩
  | 24 => ⟨_, rfl⟩
  | 25 => ⟨_, rfl⟩
  | 26 => ⟨_, rfl⟩
  | 27 => ⟨_, rfl⟩
  | 28 => ⟨_, rfl⟩
  | 29 => ⟨_, rfl⟩
  | 30 => ⟨_, rfl⟩
  | 31 => ⟨_, rfl⟩
  | 32 => ⟨_, rfl⟩
  | 33 => ⟨_, rfl⟩
  | 34 => ⟨_, rfl⟩
  | 35 => ⟨_, rfl⟩
  | 36 => ⟨_, rfl⟩
  | 37 => ⟨_, rfl⟩
  | 38 => ⟨_, rfl⟩
  | 39 => ⟨_, rfl⟩
  | 40 => ⟨_, rfl⟩
  | 41 => ⟨_, rfl⟩
  | 42 => ⟨_, rfl⟩
  | 43 => ⟨_, rfl⟩
  | 44 => ⟨_, rfl⟩
  | 45 => ⟨_, rfl⟩
  | 46 => ⟨_, rfl⟩
  | 47 => ⟨_, rfl⟩
  | 48 => ⟨_, rfl⟩
  | 49 => ⟨_, rfl⟩
  | 50 => ⟨_, rfl⟩
  | 51 => ⟨_, rfl⟩
  | 52 => ⟨_, rfl⟩
  | 53 => ⟨_, rfl⟩
  | 54 => ⟨_, rfl⟩
  | 55 => ⟨_, rfl⟩
  | 56 => ⟨_, rfl⟩
  | _ + 57 => ⟨undef, trivial⟩
def EndW (b : Nat) (vv : Value) (m : Bool) : Nat → Value → Prop
  | 0 => fun v => v = ptr b
  | 1 => fun v => v = vv
  | 2 => fun v => v = ptr b
  | 3 => fun v => v = ptr b
  | 4 => fun v => v = .pointer (some ⟨b, 21, none⟩)
  | 5 => fun v => v = .bool m
  | 6 => fun v => ∃ k : Nat, v = .pointer (some ⟨k, 0, none⟩)
  | 7 => fun v => v = undef
  | _ => fun _ => True
theorem EndW_some (b : Nat) (vv : Value) (m : Bool) : ∀ i, ∃ v, EndW b vv m i v
  | 0 => ⟨_, rfl⟩
  | 1 => ⟨_, rfl⟩
  | 2 => ⟨_, rfl⟩
  | 3 => ⟨_, rfl⟩
  | 4 => ⟨_, rfl⟩
  | 5 => ⟨_, rfl⟩
  | 6 => ⟨_, 0, rfl⟩
  | 7 => ⟨_, rfl⟩
  | _ + 8 => ⟨undef, trivial⟩

attribute [local go_sem] madeUpon

set_option maxHeartbeats 16000000 in
set_option maxRecDepth 100000 in
theorem minorEnds_walk (a b c d : Int) (ha : By a) (hb : By b) (hc : By c) (hd : By d) (Aq : Option Addr) (n cp : Nat) (w : World) (rd : RdAc w Aq n) (_ : n ≤ cp) (_ : cp ≤ maxLen) :
    Calls Tryz.prog 12 #[.int .u8 a, .int .u8 b, .int .u8 c, .int .u8 d, .slice Aq n cp] w fun e w' => e = .returned (.bool true) ∧ Below w.heap.size w w' := by
  have SM : Hid ((cfgOf a b c d).nu ≤ 83 ∧ (cfgOf a b c d).bf ≤ 3 ∧ 0 ≤ (cfgOf a b c d).ps * (cfgOf a b c d).pz ∧ (cfgOf a b c d).ps * (cfgOf a b c d).pz ≤ 768) := Lib.hid (by
    obtain ⟨a0, a1⟩ := ha
    obtain ⟨b0, b1⟩ := hb
    obtain ⟨c0, c1⟩ := hc
    have p := mul_in (a := b / 16 % 12 + 1) (b := 16 + 16 * (a / 64)) (A := 12) (B := 64) (by omega) (by omega) (by omega) (by omega)
    refine ⟨by show 24 + b % 60 ≤ 83; omega, by show c / 4 % 4 ≤ 3; omega, p.1, p.2⟩)
  have HC := Lib.hid (config14_any a b c d ha hb hc hd)
  have HM := Lib.hid (cfgOf_may a b c d ha hb hc hd)
  have RD := Lib.hid rd
  clear ha hb hc hd rd
  generalize cfgOf a b c d = cf at *
  go_enter Tryz.func12, Tryz.ntmps12
  go_wp2_with fail
  refine (HC.out _).mono ?_
  rintro e w1 ⟨rfl, b1⟩
  have HN := Lib.hid (km_new (w0 := w) (Z := noZ) HM.out b1 (fun _ e => e.elim))
  clear b1 HC
  go_wp2_with fail
  refine HN.out.mono ?_
  rintro e w2 ⟨b, pt, rfl, k2, _⟩
  have K2 := Lib.hid k2
  clear k2 HN
  go_wp2_with fail
  refine (awake14_walk _).mono ?_
  rintro e w3 ⟨rfl, b3⟩
  have KL : Hid (Ml w w3 b cf 0) := Lib.hid ⟨_, _, K2.out.keep b3, fresh_cyc HM.out pt, rfl, nb_fresh⟩
  clear b3 K2 HM
  go_wp2_with fail
  go_loopw [13] (fun s wr => ∃ (i : Nat), i ≤ n ∧ i ≤ 80 ∧ s = .int .i64 i ∧ Hid (Ml w wr b cf i)) (fun s _ => n - (intOf s).toNat)
  case atStart => exact ⟨0, Nat.zero_le _, Nat.zero_le _, rfl, KL⟩
  case round =>
    clear KL
    obtain ⟨i, hi, hi2, rfl, KL⟩ := hrel
    by_cases hlt : i < n ∧ i < 80
    · obtain ⟨h1, h2⟩ := hlt
      obtain ⟨ad, k, x, p, q, rfl, _, _, iq, hcell⟩ := RD.out i h1
      obtain ⟨s, A, HG, C, ec, nb⟩ := KL.out
      obtain ⟨c0, c1, c2, c3⟩ := hcell _ HG.bel
      have h3 : (i : Int) < (n : Int) := by omega
      have h4 : (i : Int) < 80 := by omega
      have h5 : (0 : Int) ≤ (i : Int) := by omega
      have HD := Lib.hid (do14_any HG C nb (by omega) k x p q iq.2)
      have NB := Lib.hid nb
      have EC := Lib.hid ec
      clear KL HG hcell C nb ec
      go_wp2_with fail
      refine HD.out.mono ?_
      rintro e w4 ⟨s', B, E, rfl, qq, k4, _⟩
      have K4 := Lib.hid k4
      have C4 := Lib.hid qq.cyc
      have N4 := Lib.hid (qq.nb i (by omega) NB.out)
      have E4 := Lib.hid (qq.cf.trans EC.out)
      clear qq k4 HD NB EC c0 c1 c2 c3
      have KN : Hid (Ml w w4 b cf (i + 1)) := Lib.hid ⟨s', B, K4.out, C4.out, E4.out, N4.out⟩
      clear K4 C4 E4 N4
      go_wp2
      go_roundw
      case rel => exact ⟨i + 1, by omega, by omega, by go_num, KN⟩
      case measure => simp [intOf]; omega
    · have hlt : ((i : Int) < (n : Int) ∧ ¬ ((i : Int) < 80)) ∨ ¬ ((i : Int) < (n : Int)) := by omega
      obtain ⟨s, A, k, c0, ec, nb⟩ := KL.out
      have K := Lib.hid k
      have C := Lib.hid c0
      have EC := Lib.hid ec
      have NB := Lib.hid nb
      clear k c0 ec nb KL RD hi
      generalize wr = wo at *
      rcases hlt with ⟨g1, g2⟩ | g1
      all_goals
        go_wp2_with fail
        refine region_made_tailG (EwG w b s) (EndW b (stV8 s.d.al s.d.wd s.d.pr s.d.mi s.d.ma (s.yu + s.yv) s.used (s.cf.ps * s.cf.pz - s.used)) s.mv) 8 (by kernel_rfl) (by kernel_rfl) (EndW_some _ _ _) ⟨K.out.keep (below_drew wo), rfl⟩ ?_
        simp only [List.take_succ_cons, List.take_zero, List.drop_succ_cons, List.drop_zero]
        refine wpMadeG_step ?_ ?_
        · refine .inl ⟨by rfl, ?_⟩
          intro m' w' hg hag
          go_simp
          exact ⟨rfl, hg.pure _ _ (by decide) (by decide)⟩
        intro K hK
        rintro _ rfl
        go_simp
        refine hK _ _ ?_
        clear hK K
        refine wpMadeG_step ?_ ?_
        · refine .inl ⟨by rfl, ?_⟩
          intro m' w' hg hag
          obtain ⟨Z, kz⟩ := hg.km
          go_simp
          exact (km_stats kz C.out).mono fun e w3 ⟨he, b3⟩ => ⟨_, he, rfl, (hg.keep b3).pure _ _ (by decide) (by decide)⟩
        intro K hK
        rintro _ rfl
        go_simp
        refine hK _ _ ?_
        clear hK K
        refine wpMadeG_step ?_ ?_
        · refine .inl ⟨by rfl, ?_⟩
          intro m' w' hg hag
          go_simp
          exact ⟨rfl, hg.pure _ _ (by decide) (by decide)⟩
        intro K hK
        rintro _ rfl
        go_simp
        refine hK _ _ ?_
        clear hK K
        refine wpMadeG_step ?_ ?_
        · refine .inl ⟨by rfl, ?_⟩
          intro m' w' hg hag
          go_simp
          exact ⟨rfl, hg.pure _ _ (by decide) (by decide)⟩
        intro K hK
        rintro _ rfl
        go_simp
        refine hK _ _ ?_
        clear hK K
        refine wpMadeG_step ?_ ?_
        · refine .inl ⟨by rfl, ?_⟩
          intro m' w' hg hag
          go_simp
          exact ⟨rfl, hg.pure _ _ (by decide) (by decide)⟩
        intro K hK
        rintro _ rfl
        go_simp
        refine hK _ _ ?_
        clear hK K
        refine wpMadeG_step ?_ ?_
        · refine .inl ⟨by rfl, ?_⟩
          intro m' w' hg hag
          obtain ⟨Z, kz⟩ := hg.km
          have q1 := km_moving kz
          go_simp
          exact ⟨rfl, hg.pure _ _ (by decide) (by decide)⟩
        intro K hK
        rintro _ rfl
        go_simp
        refine hK _ _ ?_
        clear hK K
        refine wpMadeG_step ?_ ?_
        · refine .inl ⟨by rfl, ?_⟩
          intro m' w' hg hag
          have h6 := hag 6 (.inl rfl)
          go_simp
          exact ⟨⟨_, rfl⟩, hg.made h6⟩
        intro K hK
        rintro _ ⟨kb, rfl⟩
        go_simp
        refine hK _ _ ?_
        clear hK K
        refine wpMadeG_step ?_ ?_
        · refine .inl ⟨by rfl, ?_⟩
          intro m' w' hg hag
          have h6 := hag 6 (.inr ⟨⟨6, .data⟩, by simp, by rfl, rfl⟩)
          have h7 := hag 7 (.inl rfl)
          obtain ⟨kg, bg⟩ := hg.six h6 h7
          obtain ⟨q0, q1, q2, q3, q4, q5, q6, q7, qf⟩ := bg.eight
          have lt := bg.lt
          go_simp
          exact ⟨rfl, hg.stored h6 h7⟩
        intro K hK
        rintro _ rfl
        go_simp
        refine hK _ _ ?_
        clear hK K
        refine wpMadeG_nil ?_
        intro w' hg
        obtain ⟨kg, bg⟩ := hg.done rfl rfl
        have KG := Lib.hid kg
        have BG := Lib.hid bg
        clear hg K kg bg
        have LF := Lib.hid (show left_ s A ≤ 1000 from by
          obtain ⟨S, hC⟩ := KG.out.cr
          have h1 := left_few hC C.out
          have h2 := SM.out
          rw [EC.out] at h1
          omega)
        have M0 := Lib.hid (show 0 ≤ s.d.mi ∧ s.d.mi ≤ 1000000 from by have := NB.out; unfold Nb at this; omega)
        have C0 := Lib.hid (show 0 ≤ s.cop ∧ s.tot = s.yu + s.yv - s.cop from by
          have := C.out.sim.cop
          have := rest_le (A := A)
          have := C.out.sim.laid.he.use
          exact ⟨by omega, rfl⟩)
        have U0 := Lib.hid (show 0 ≤ s.used ∧ s.used ≤ 768 ∧ 0 ≤ s.yu + s.yv ∧ s.yu + s.yv ≤ 166 from by
          have h1 := C.out.used
          have h2 := SM.out
          have h3 := C.out.sim.laid.used
          have h4 := C.out.sim.laid.le
          rw [EC.out] at h1 h3 h4
          omega)
        have FI : Hid (FinI w w' b kb cf s.d.mi s.tot (left_ s A) s.mv 0 s.mv) := Lib.hid ⟨s, A, KG.out, C.out, EC.out, rfl, Int.le_refl _, fun e => ⟨e, Nat.le_refl _, rfl⟩, fun e => by rw [e]; rfl⟩
        generalize left_ s A = L at *
        clear KG C NB
        go_wp2_with fail
        go_loopw [16] (fun s16 wr => ∃ (j : Nat) (mv : Bool), j ≤ L + 1 ∧ s16 = .int .i64 j ∧ Hid (FinI w wr b kb cf s.d.mi s.tot L s.mv j mv) ∧ Hid (Blk wr kb (stL8 s.d.al s.d.wd s.d.pr s.d.mi s.d.ma (s.yu + s.yv) s.used (s.cf.ps * s.cf.pz - s.used)) 31)) (fun s16 _ => L + 2 - (intOf s16).toNat)
        case atStart => exact ⟨0, s.mv, by omega, rfl, FI, BG⟩
        case round =>
          clear FI BG
          obtain ⟨j, mv, hj, rfl, FI, BG⟩ := hrel
          have c21 := FI.out.moving
          have l1000 := LF.out
          have j4 : (j : Int) < 4000 := by omega
          cases mv
          · obtain ⟨t, B, k, c, ec, hm, tt, mz, mm0⟩ := FI.out
            have mm := Lib.hid (mm0 rfl)
            clear mm0 mz
            have HS := Lib.hid (km_stats k c)
            have K := Lib.hid k
            have C := Lib.hid c
            have ET := Lib.hid (And.intro ec (And.intro hm tt))
            have YV := Lib.hid (show t.yv = 0 ∧ t.cop = 0 from by
              have u := c.sim.laid.he.use
              have v := c.sim.cop
              obtain ⟨hE, _⟩ := c.idle hm
              have r : A.rest = A.rest := rfl
              have r0 : B.rest = 0 := by unfold Hp.rest Hp.un; rw [hE]; rfl
              rw [hE] at u
              have u : t.yv = 0 := u
              exact ⟨u, by omega⟩)
            clear FI k c ec hm tt
            go_wp2_with fail
            refine HS.out.mono ?_
            rintro e w6 ⟨rfl, b6⟩
            have K6 := Lib.hid ((K.out.keep b6).grow (Z' := fun j => j = kb ∨ j = w6.heap.size) ((Below.refl _ w6).alloc (Nat.le_refl _) (stO8 t.d.al t.d.wd t.d.pr t.d.mi t.d.ma (t.yu + t.yv) t.used (t.cf.ps * t.cf.pz - t.used))) fun j hj => hj.imp id fun e => ⟨by omega, by subst e; simp⟩)
            have B6 := Lib.hid ((BG.out.keep b6).keep ((Below.refl _ w6).alloc (Nat.le_refl _) (stO8 t.d.al t.d.wd t.d.pr t.d.mi t.d.ma (t.yu + t.yv) t.used (t.cf.ps * t.cf.pz - t.used))))
            have X6 := Lib.hid (Blk.new w6 (stL8 t.d.al t.d.wd t.d.pr t.d.mi t.d.ma (t.yu + t.yv) t.used (t.cf.ps * t.cf.pz - t.used)) 31)
            have HS2 := Lib.hid (km_step K6.out C.out)
            clear HS K BG b6 c21
            go_wp2_with fail
            refine HS2.out.mono ?_
            rintro e w7 ⟨t', B', n7, y7, rfl, q7, k7, p7⟩
            obtain ⟨rfl, rfl, rfl⟩ := q7.no ET.out.2.1
            have ey : y7 = false := q7.mv.symm.trans ET.out.2.1
            subst ey
            have G7 : Hid (EndG w w7 b t'.pt.y kb w6.heap.size cf (s.d.al, s.d.wd, s.d.pr, s.d.mi, s.d.ma, s.yu + s.yv, s.used, s.cf.ps * s.cf.pz - s.used) (t'.d.al, t'.d.wd, t'.d.pr, t'.d.mi, t'.d.ma, t'.yu + t'.yv, t'.used, t'.cf.ps * t'.cf.pz - t'.used)) := Lib.hid ⟨⟨t', B', k7, q7.cyc, ET.out.1, ET.out.2.1, YV.out.2, rfl⟩, B6.out.kp p7 (.inl rfl), X6.out.kp p7 (.inr rfl)⟩
            have GB := Lib.hid (show t'.yu + t'.yv ≤ s.yu + s.yv ∧ 0 ≤ t'.yu + t'.yv ∧ 0 ≤ t'.used ∧ t'.used ≤ cf.ps * cf.pz from by
              have h1 := ET.out.2.2
              have h2 := YV.out
              have h3 := C0.out
              have h4 : t'.tot = t'.yu + t'.yv - t'.cop := rfl
              have h5 := C.out.used
              have h6 := C.out.sim.laid.used
              rw [ET.out.1] at h5
              omega)
            clear q7 k7 p7 HS2 K6 B6 X6 C ET YV C0
            generalize t'.yu + t'.yv = y1 at *
            generalize t'.used = o1 at *
            generalize s.yu + s.yv = y0 at *
            generalize s.used = o0 at *
            generalize w6.heap.size = sb at *
            have gb := GB.out
            have u0 := U0.out
            have sm := SM.out
            have GT : Hid (decide (y0 < y1) = false ∧ decide (y0 + o0 + cf.ps * cf.pz < y1 + o1) = false) := Lib.hid ⟨decide_eq_false (by omega), decide_eq_false (by omega)⟩
            have hw1 : IntKind.i64.wrap (y1 + o1) = y1 + o1 := IntWalk.i64_in _ (by omega)
            have hw2 : IntKind.i64.wrap (y0 + o0) = y0 + o0 := IntWalk.i64_in _ (by omega)
            have hw3 : IntKind.i64.wrap (cf.ps * cf.pz) = cf.ps * cf.pz := IntWalk.i64_in _ (by omega)
            have hw4 : IntKind.i64.wrap (y0 + o0 + cf.ps * cf.pz) = y0 + o0 + cf.ps * cf.pz := IntWalk.i64_in _ (by omega)
            clear gb u0 sm
            go_wp2_with fail
            refine region_made_tailG (fun _ w' => EndG w w' b t'.pt.y kb sb cf (s.d.al, s.d.wd, s.d.pr, s.d.mi, s.d.ma, y0, o0, s.cf.ps * s.cf.pz - o0) (t'.d.al, t'.d.wd, t'.d.pr, t'.d.mi, t'.d.ma, y1, o1, t'.cf.ps * t'.cf.pz - o1)) (EndV b t'.pt.y kb sb y1 o1 y0 o0 cf.ps cf.pz) 57 (by kernel_rfl) (by kernel_rfl) (EndV_some _ _ _ _ _ _ _ _ _ _) (G7.out.keep (below_drew w7)) ?_
            simp only [List.take_succ_cons, List.take_zero, List.drop_succ_cons, List.drop_zero]
            refine wpMadeG_step ?_ ?_
            · refine .inl ⟨by rfl, ?_⟩
              intro m' w' hg hag
              go_simp
              first | exact rfl | exact ⟨rfl, hg⟩
            intro K hK
            rintro _ rfl
            go_simp
            refine hK _ _ ?_
            clear hK K
            refine wpMadeG_step ?_ ?_
            · refine .inl ⟨by rfl, ?_⟩
              intro m' w' hg hag
              go_simp
              first | exact rfl | exact ⟨rfl, hg⟩
            intro K hK
            rintro _ rfl
            go_simp
            refine hK _ _ ?_
            clear hK K
            refine wpMadeG_step ?_ ?_
            · refine .inl ⟨by rfl, ?_⟩
              intro m' w' hg hag
              go_simp
              first | exact rfl | exact ⟨rfl, hg⟩
            intro K hK
            rintro _ rfl
            go_simp
            refine hK _ _ ?_
            clear hK K
            refine wpMadeG_step ?_ ?_
            · refine .inl ⟨by rfl, ?_⟩
              intro m' w' hg hag
              have q1 := hg.c21
              go_simp
              first | exact rfl | exact ⟨rfl, hg⟩
            intro K hK
            rintro _ rfl
            go_simp
            refine hK _ _ ?_
            clear hK K
            refine wpMadeG_step ?_ ?_
            · refine .inl ⟨by rfl, ?_⟩
              intro m' w' hg hag
              go_simp
              first | exact rfl | exact ⟨rfl, hg⟩
            intro K hK
            rintro _ rfl
            go_simp
            refine hK _ _ ?_
            clear hK K
            refine wpMadeG_step ?_ ?_
            · refine .inl ⟨by rfl, ?_⟩
              intro m' w' hg hag
              go_simp
              first | exact rfl | exact ⟨rfl, hg⟩
            intro K hK
            rintro _ rfl
            go_simp
            refine hK _ _ ?_
            clear hK K
            refine wpMadeG_step ?_ ?_
            · refine .inl ⟨by rfl, ?_⟩
              intro m' w' hg hag
              go_simp
              first | exact rfl | exact ⟨rfl, hg⟩
            intro K hK
            rintro _ rfl
            go_simp
            refine hK _ _ ?_
            clear hK K
            refine wpMadeG_step ?_ ?_
            · refine .inl ⟨by rfl, ?_⟩
              intro m' w' hg hag
              go_simp
              first | exact rfl | exact ⟨rfl, hg⟩
            intro K hK
            rintro _ rfl
            go_simp
            refine hK _ _ ?_
            clear hK K
            refine wpMadeG_step ?_ ?_
            · refine .inl ⟨by rfl, ?_⟩
              intro m' w' hg hag
              have q1 := hg.c14
              go_simp
              first | exact rfl | exact ⟨rfl, hg⟩
            intro K hK
            rintro _ rfl
            go_simp
            refine hK _ _ ?_
            clear hK K
            refine wpMadeG_step ?_ ?_
            · refine .inl ⟨by rfl, ?_⟩
              intro m' w' hg hag
              go_simp
              exact (hg.left).mono fun e w3 ⟨he, b3⟩ => ⟨_, he, rfl, hg.keep b3⟩
            intro K hK
            rintro _ rfl
            go_simp
            refine hK _ _ ?_
            clear hK K
            refine wpMadeG_step ?_ ?_
            · refine .inl ⟨by rfl, ?_⟩
              intro m' w' hg hag
              go_simp
              first | exact rfl | exact ⟨rfl, hg⟩ | (show Value.bool _ = Value.bool _; simp) | exact ⟨by simp, hg⟩
            intro K hK
            rintro _ rfl
            go_simp
            refine hK _ _ ?_
            clear hK K
            refine wpMadeG_step ?_ ?_
            · refine .inl ⟨by rfl, ?_⟩
              intro m' w' hg hag
              go_simp
              first | exact rfl | exact ⟨rfl, hg⟩ | (show Value.bool _ = Value.bool _; simp) | exact ⟨by simp, hg⟩
            intro K hK
            rintro _ rfl
            go_simp
            refine hK _ _ ?_
            clear hK K
            refine wpMadeG_step ?_ ?_
            · refine .inl ⟨by rfl, ?_⟩
              intro m' w' hg hag
              go_simp
              first | exact rfl | exact ⟨rfl, hg⟩ | (show Value.bool _ = Value.bool _; simp) | exact ⟨by simp, hg⟩
            intro K hK
            rintro _ rfl
            go_simp
            refine hK _ _ ?_
            clear hK K
            refine wpMadeG_step ?_ ?_
            · refine .inl ⟨by rfl, ?_⟩
              intro m' w' hg hag
              go_simp
              first | exact rfl | exact ⟨rfl, hg⟩
            intro K hK
            rintro _ rfl
            go_simp
            refine hK _ _ ?_
            clear hK K
            refine wpMadeG_step ?_ ?_
            · refine .inl ⟨by rfl, ?_⟩
              intro m' w' hg hag
              go_simp
              first | exact rfl | exact ⟨rfl, hg⟩
            intro K hK
            rintro _ rfl
            go_simp
            refine hK _ _ ?_
            clear hK K
            refine wpMadeG_step ?_ ?_
            · refine .inl ⟨by rfl, ?_⟩
              intro m' w' hg hag
              go_simp
              first | exact rfl | exact ⟨rfl, hg⟩
            intro K hK
            rintro _ rfl
            go_simp
            refine hK _ _ ?_
            clear hK K
            refine wpMadeG_step ?_ ?_
            · refine .inl ⟨by rfl, ?_⟩
              intro m' w' hg hag
              have q1 := hg.c23
              go_simp
              first | exact rfl | exact ⟨rfl, hg⟩
            intro K hK
            rintro _ rfl
            go_simp
            refine hK _ _ ?_
            clear hK K
            refine wpMadeG_step ?_ ?_
            · refine .inl ⟨by rfl, ?_⟩
              intro m' w' hg hag
              go_simp
              first | exact rfl | exact ⟨rfl, hg⟩ | (show Value.bool _ = Value.bool _; simp) | exact ⟨by simp, hg⟩
            intro K hK
            rintro _ rfl
            go_simp
            refine hK _ _ ?_
            clear hK K
            refine wpMadeG_step ?_ ?_
            · refine .inl ⟨by rfl, ?_⟩
              intro m' w' hg hag
              go_simp
              first | exact rfl | exact ⟨rfl, hg⟩ | (show Value.bool _ = Value.bool _; simp) | exact ⟨by simp, hg⟩
            intro K hK
            rintro _ rfl
            go_simp
            refine hK _ _ ?_
            clear hK K
            refine wpMadeG_step ?_ ?_
            · refine .inl ⟨by rfl, ?_⟩
              intro m' w' hg hag
              go_simp
              first | exact rfl | exact ⟨rfl, hg⟩ | (show Value.bool _ = Value.bool _; simp) | exact ⟨by simp, hg⟩
            intro K hK
            rintro _ rfl
            go_simp
            refine hK _ _ ?_
            clear hK K
            refine wpMadeG_step ?_ ?_
            · refine .inl ⟨by rfl, ?_⟩
              intro m' w' hg hag
              go_simp
              first | exact rfl | exact ⟨rfl, hg⟩
            intro K hK
            rintro _ rfl
            go_simp
            refine hK _ _ ?_
            clear hK K
            refine wpMadeG_step ?_ ?_
            · refine .inl ⟨by rfl, ?_⟩
              intro m' w' hg hag
              go_simp
              first | exact rfl | exact ⟨rfl, hg⟩ | (show Value.bool _ = Value.bool _; simp) | exact ⟨by simp, hg⟩
            intro K hK
            rintro _ rfl
            go_simp
            refine hK _ _ ?_
            clear hK K
            refine wpMadeG_step ?_ ?_
            · refine .inl ⟨by rfl, ?_⟩
              intro m' w' hg hag
              go_simp
              first | exact rfl | exact ⟨rfl, hg⟩ | (show Value.bool _ = Value.bool _; simp) | exact ⟨by simp, hg⟩
            intro K hK
            rintro _ rfl
            go_simp
            refine hK _ _ ?_
            clear hK K
            refine wpMadeG_step ?_ ?_
            · refine .inl ⟨by rfl, ?_⟩
              intro m' w' hg hag
              go_simp
              first | exact rfl | exact ⟨rfl, hg⟩ | (show Value.bool _ = Value.bool _; simp) | exact ⟨by simp, hg⟩
            intro K hK
            rintro _ rfl
            go_simp
            refine hK _ _ ?_
            clear hK K
            refine wpMadeG_step ?_ ?_
            · refine .inl ⟨by rfl, ?_⟩
              intro m' w' hg hag
              go_simp
              first | exact rfl | exact ⟨rfl, hg⟩
            intro K hK
            rintro _ rfl
            go_simp
            refine hK _ _ ?_
            clear hK K
            refine wpMadeG_step ?_ ?_
            · refine .inl ⟨by rfl, ?_⟩
              intro m' w' hg hag
              go_simp
              first | exact rfl | exact ⟨rfl, hg⟩ | (show Value.bool _ = Value.bool _; simp) | exact ⟨by simp, hg⟩
            intro K hK
            rintro _ rfl
            go_simp
            refine hK _ _ ?_
            clear hK K
            refine wpMadeG_step ?_ ?_
            · refine .inl ⟨by rfl, ?_⟩
              intro m' w' hg hag
              go_simp
              first | exact rfl | exact ⟨rfl, hg⟩ | (show Value.bool _ = Value.bool _; simp) | exact ⟨by simp, hg⟩
            intro K hK
            rintro _ rfl
            go_simp
            refine hK _ _ ?_
            clear hK K
            refine wpMadeG_step ?_ ?_
            · refine .inl ⟨by rfl, ?_⟩
              intro m' w' hg hag
              go_simp
              first | exact rfl | exact ⟨rfl, hg⟩
            intro K hK
            rintro _ rfl
            go_simp
            refine hK _ _ ?_
            clear hK K
            refine wpMadeG_step ?_ ?_
            · refine .inl ⟨by rfl, ?_⟩
              intro m' w' hg hag
              have q1 := hg.s5
              go_simp
              first | exact rfl | exact ⟨rfl, hg⟩
            intro K hK
            rintro _ rfl
            go_simp
            refine hK _ _ ?_
            clear hK K
            refine wpMadeG_step ?_ ?_
            · refine .inl ⟨by rfl, ?_⟩
              intro m' w' hg hag
              go_simp
              first | exact rfl | exact ⟨rfl, hg⟩
            intro K hK
            rintro _ rfl
            go_simp
            refine hK _ _ ?_
            clear hK K
            refine wpMadeG_step ?_ ?_
            · refine .inl ⟨by rfl, ?_⟩
              intro m' w' hg hag
              have q1 := hg.w5
              go_simp
              first | exact rfl | exact ⟨rfl, hg⟩
            intro K hK
            rintro _ rfl
            go_simp
            refine hK _ _ ?_
            clear hK K
            refine wpMadeG_step ?_ ?_
            · refine .inl ⟨by rfl, ?_⟩
              intro m' w' hg hag
              go_simp
              first | (show Value.bool _ = Value.bool _; rw [GT.out.1]) | exact ⟨by rw [GT.out.1], hg⟩
            intro K hK
            rintro _ rfl
            go_simp
            refine hK _ _ ?_
            clear hK K
            refine wpMadeG_step ?_ ?_
            · refine .inl ⟨by rfl, ?_⟩
              intro m' w' hg hag
              go_simp
              first | exact rfl | exact ⟨rfl, hg⟩ | (show Value.bool _ = Value.bool _; simp) | exact ⟨by simp, hg⟩
            intro K hK
            rintro _ rfl
            go_simp
            refine hK _ _ ?_
            clear hK K
            refine wpMadeG_step ?_ ?_
            · refine .inl ⟨by rfl, ?_⟩
              intro m' w' hg hag
              go_simp
              first | exact rfl | exact ⟨rfl, hg⟩ | (show Value.bool _ = Value.bool _; simp) | exact ⟨by simp, hg⟩
            intro K hK
            rintro _ rfl
            go_simp
            refine hK _ _ ?_
            clear hK K
            refine wpMadeG_step ?_ ?_
            · refine .inl ⟨by rfl, ?_⟩
              intro m' w' hg hag
              go_simp
              first | exact rfl | exact ⟨rfl, hg⟩
            intro K hK
            rintro _ rfl
            go_simp
            refine hK _ _ ?_
            clear hK K
            refine wpMadeG_step ?_ ?_
            · refine .inl ⟨by rfl, ?_⟩
              intro m' w' hg hag
              have q1 := hg.s5
              go_simp
              first | exact rfl | exact ⟨rfl, hg⟩
            intro K hK
            rintro _ rfl
            go_simp
            refine hK _ _ ?_
            clear hK K
            refine wpMadeG_step ?_ ?_
            · refine .inl ⟨by rfl, ?_⟩
              intro m' w' hg hag
              go_simp
              first | exact rfl | exact ⟨rfl, hg⟩
            intro K hK
            rintro _ rfl
            go_simp
            refine hK _ _ ?_
            clear hK K
            refine wpMadeG_step ?_ ?_
            · refine .inl ⟨by rfl, ?_⟩
              intro m' w' hg hag
              have q1 := hg.s6
              go_simp
              first | exact rfl | exact ⟨rfl, hg⟩
            intro K hK
            rintro _ rfl
            go_simp
            refine hK _ _ ?_
            clear hK K
            refine wpMadeG_step ?_ ?_
            · refine .inl ⟨by rfl, ?_⟩
              intro m' w' hg hag
              go_simp
              first | exact rfl | exact ⟨rfl, hg⟩
            intro K hK
            rintro _ rfl
            go_simp
            refine hK _ _ ?_
            clear hK K
            refine wpMadeG_step ?_ ?_
            · refine .inl ⟨by rfl, ?_⟩
              intro m' w' hg hag
              go_simp
              first | exact rfl | exact ⟨rfl, hg⟩
            intro K hK
            rintro _ rfl
            go_simp
            refine hK _ _ ?_
            clear hK K
            refine wpMadeG_step ?_ ?_
            · refine .inl ⟨by rfl, ?_⟩
              intro m' w' hg hag
              have q1 := hg.w5
              go_simp
              first | exact rfl | exact ⟨rfl, hg⟩
            intro K hK
            rintro _ rfl
            go_simp
            refine hK _ _ ?_
            clear hK K
            refine wpMadeG_step ?_ ?_
            · refine .inl ⟨by rfl, ?_⟩
              intro m' w' hg hag
              go_simp
              first | exact rfl | exact ⟨rfl, hg⟩
            intro K hK
            rintro _ rfl
            go_simp
            refine hK _ _ ?_
            clear hK K
            refine wpMadeG_step ?_ ?_
            · refine .inl ⟨by rfl, ?_⟩
              intro m' w' hg hag
              have q1 := hg.w6
              go_simp
              first | exact rfl | exact ⟨rfl, hg⟩
            intro K hK
            rintro _ rfl
            go_simp
            refine hK _ _ ?_
            clear hK K
            refine wpMadeG_step ?_ ?_
            · refine .inl ⟨by rfl, ?_⟩
              intro m' w' hg hag
              go_simp
              first | exact rfl | exact ⟨rfl, hg⟩
            intro K hK
            rintro _ rfl
            go_simp
            refine hK _ _ ?_
            clear hK K
            refine wpMadeG_step ?_ ?_
            · refine .inl ⟨by rfl, ?_⟩
              intro m' w' hg hag
              go_simp
              first | exact rfl | exact ⟨rfl, hg⟩
            intro K hK
            rintro _ rfl
            go_simp
            refine hK _ _ ?_
            clear hK K
            refine wpMadeG_step ?_ ?_
            · refine .inl ⟨by rfl, ?_⟩
              intro m' w' hg hag
              go_simp
              first | exact rfl | exact ⟨rfl, hg⟩
            intro K hK
            rintro _ rfl
            go_simp
            refine hK _ _ ?_
            clear hK K
            refine wpMadeG_step ?_ ?_
            · refine .inl ⟨by rfl, ?_⟩
              intro m' w' hg hag
              go_simp
              first | exact rfl | exact ⟨rfl, hg⟩
            intro K hK
            rintro _ rfl
            go_simp
            refine hK _ _ ?_
            clear hK K
            refine wpMadeG_step ?_ ?_
            · refine .inl ⟨by rfl, ?_⟩
              intro m' w' hg hag
              go_simp
              first | exact rfl | exact ⟨rfl, hg⟩
            intro K hK
            rintro _ rfl
            go_simp
            refine hK _ _ ?_
            clear hK K
            refine wpMadeG_step ?_ ?_
            · refine .inl ⟨by rfl, ?_⟩
              intro m' w' hg hag
              have q1 := hg.c2
              go_simp
              first | exact rfl | exact ⟨rfl, hg⟩
            intro K hK
            rintro _ rfl
            go_simp
            refine hK _ _ ?_
            clear hK K
            refine wpMadeG_step ?_ ?_
            · refine .inl ⟨by rfl, ?_⟩
              intro m' w' hg hag
              go_simp
              first | exact rfl | exact ⟨rfl, hg⟩
            intro K hK
            rintro _ rfl
            go_simp
            refine hK _ _ ?_
            clear hK K
            refine wpMadeG_step ?_ ?_
            · refine .inl ⟨by rfl, ?_⟩
              intro m' w' hg hag
              go_simp
              first | exact rfl | exact ⟨rfl, hg⟩
            intro K hK
            rintro _ rfl
            go_simp
            refine hK _ _ ?_
            clear hK K
            refine wpMadeG_step ?_ ?_
            · refine .inl ⟨by rfl, ?_⟩
              intro m' w' hg hag
              go_simp
              first | exact rfl | exact ⟨rfl, hg⟩
            intro K hK
            rintro _ rfl
            go_simp
            refine hK _ _ ?_
            clear hK K
            refine wpMadeG_step ?_ ?_
            · refine .inl ⟨by rfl, ?_⟩
              intro m' w' hg hag
              go_simp
              first | exact rfl | exact ⟨rfl, hg⟩
            intro K hK
            rintro _ rfl
            go_simp
            refine hK _ _ ?_
            clear hK K
            refine wpMadeG_step ?_ ?_
            · refine .inl ⟨by rfl, ?_⟩
              intro m' w' hg hag
              have q1 := hg.c3
              go_simp
              first | exact rfl | exact ⟨rfl, hg⟩
            intro K hK
            rintro _ rfl
            go_simp
            refine hK _ _ ?_
            clear hK K
            refine wpMadeG_step ?_ ?_
            · refine .inl ⟨by rfl, ?_⟩
              intro m' w' hg hag
              go_simp
              first | exact rfl | exact ⟨rfl, hg⟩
            intro K hK
            rintro _ rfl
            go_simp
            refine hK _ _ ?_
            clear hK K
            refine wpMadeG_step ?_ ?_
            · refine .inl ⟨by rfl, ?_⟩
              intro m' w' hg hag
              go_simp
              first | exact rfl | exact ⟨rfl, hg⟩
            intro K hK
            rintro _ rfl
            go_simp
            refine hK _ _ ?_
            clear hK K
            refine wpMadeG_step ?_ ?_
            · refine .inl ⟨by rfl, ?_⟩
              intro m' w' hg hag
              go_simp
              first | (show Value.bool _ = Value.bool _; rw [GT.out.2]) | exact ⟨by rw [GT.out.2], hg⟩
            intro K hK
            rintro _ rfl
            go_simp
            refine hK _ _ ?_
            clear hK K
            refine wpMadeG_nil ?_
            intro w' hg
            have GE := Lib.hid hg
            have s3 := hg.s3
            have w3 := hg.w3
            clear hg G7
            simp only at s3 w3
            have m0 := M0.out
            have hw5 : IntKind.i64.wrap (s.d.mi + 1) = s.d.mi + 1 := IntWalk.i64_in _ (by omega)
            have mm := mm.out
            cases hv : s.mv
            all_goals
              rw [hv] at mm
              simp only [Bool.false_eq_true, if_false, if_true] at mm
              rw [mm] at s3
              go_wp2
              go_ret
              exact ⟨by simp <;> omega, GE.out.bel⟩
          · have jl := FI.out.few
            have HS := Lib.hid (FI.out.step M0.out.1 M0.out.2)
            go_wp2_with fail
            refine HS.out.mono ?_
            rintro e w5 ⟨n5, y5, rfl, n1, f5, p5⟩
            have n0 : ¬ n5 < 1 := by omega
            have F5 := Lib.hid f5
            have B5 := Lib.hid (BG.out.kp p5 rfl)
            clear f5 p5 HS FI BG c21
            go_wp2
            go_roundw
            case rel => exact ⟨j + 1, y5, by omega, by go_num, F5, B5⟩
            case measure => simp [intOf]; omega
end Gc
end Go.Proofs.YthmhehehomieiaaGreat

/- Objects without references, each held by one handle at most. Of lists alone. -/
namespace Go.Proofs.YthmhehehomieiaaGreat
namespace Gc
open Go.RowKit

theorem nodup_filter {P : Int → Bool} : ∀ {l : List Int}, (∀ (i j : Nat) (q : Int), l[i]? = some q → l[j]? = some q → P q = true → i = j) → (l.filter P).Nodup
  | [], _ => List.nodup_nil
  | a :: l, h => by
    have ih := nodup_filter (P := P) (l := l) fun i j q hi hj hq => by
      have := h (i + 1) (j + 1) q (by simpa using hi) (by simpa using hj) hq
      omega
    by_cases e : P a = true
    · rw [List.filter_cons_of_pos e, List.nodup_cons]
      refine ⟨fun m => ?_, ih⟩
      obtain ⟨j, hj, ej⟩ := List.getElem_of_mem (List.mem_filter.1 m).1
      have := h 0 (j + 1) a rfl (by simp [List.getElem?_eq_getElem hj, ej]) e
      omega
    · rw [List.filter_cons_of_neg e]
      exact ih

/-- Nothing refers to anything, nothing is old, and each handle holds something of its own. -/
structure PF (s : Co) (A : Hp) : Prop where
  cyc : Cyc s A
  mv : s.mv = false
  old : A.O = []
  obs : ∀ p o, A.ob p = some o → o.rs = [] ∧ o.age = 0
  one : ∀ (i j : Nat) (q : Int), s.hs[i]? = some q → s.hs[j]? = some q → q ≠ 0 → i = j

/-- How much what a handle holds takes. -/
def wP (A : Hp) (p : Int) : Nat := match A.ob p with | some o => o.ss.length + 2 | none => 0

section
variable {s s' : Co} {A B : Hp} {E a d : Int}

theorem PF.fresh {c : Cfg} (hm : c.May) (pt : Pts) : PF (Co.fresh c pt) (Hp.none_ c.ha) :=
  ⟨fresh_cyc hm pt, rfl, rfl, fun _ _ h => (by cases h), fun i j q hi _ n => by
    have : q ∈ zeros c.ha := List.mem_of_getElem? hi
    exact absurd (List.mem_replicate.1 this).2 n⟩

theorem PF.rest (h : PF s A) : A.rest = 0 := by
  obtain ⟨hE, _⟩ := h.cyc.idle h.mv
  unfold Hp.rest Hp.un
  rw [hE]
  rfl

theorem PF.make (h : PF s A) (q : ActQ s A (.make a 0 d) E s' B) (e : s.has a = true) (d0 : 0 ≤ d) (d1 : d ≤ s.cf.lg) (l1 : s.cf.lg ≤ 64) : (E = 0 ∨ E = 7) ∧ PF s' B ∧ s'.hs.length = s.hs.length := by
  by_cases r : 0 + d + 2 ≤ s.cf.nu - s.yu - A.rest
  · obtain ⟨rfl, rfl, rfl⟩ := q.ent.make_yes e (Int.le_refl _) d0 (by omega) r
    have y := h.cyc.sim.par
    obtain ⟨hq, q0, _⟩ := h.cyc.sim.laid.make (a := 0) (b := d.toNat) h.cyc.inv (by omega) (by omega) y.1 y.2
    have hq : A.ob s.next = none := hq
    have q0 : 0 < s.next := q0
    refine ⟨.inl rfl, ⟨q.cyc, q.mv.trans h.mv, h.old, fun p o ho => ?_, fun i j x hi hj n => ?_⟩, List.length_set ..⟩
    · have ho : upd A.ob s.next (s.newOb (0 : Int).toNat d.toNat) p = some o := ho
      by_cases z : p = s.next
      · subst z
        rw [upd_self] at ho
        cases ho
        exact ⟨rfl, rfl⟩
      · rw [upd_ne z] at ho
        exact h.obs p o ho
    · have hi : (s.hs.set a.toNat s.next)[i]? = some x := hi
      have hj : (s.hs.set a.toNat s.next)[j]? = some x := hj
      have nx : ∀ k : Nat, s.hs[k]? ≠ some s.next := fun k hk => by
        have ok := (h.cyc.held (List.mem_of_getElem? hk)).1
        obtain ⟨o, ho⟩ := h.cyc.inv.ok_ob ok (by omega)
        rw [hq] at ho; cases ho
      have lt := (List.getElem?_eq_some_iff.1 hi).1
      rw [List.length_set] at lt
      have lt2 := (List.getElem?_eq_some_iff.1 hj).1
      rw [List.length_set] at lt2
      by_cases ei : a.toNat = i
      · by_cases ej : a.toNat = j
        · omega
        · subst ei
          rw [List.getElem?_set_self lt] at hi
          cases hi
          rw [List.getElem?_set_ne ej] at hj
          exact absurd hj (nx j)
      · rw [List.getElem?_set_ne ei] at hi
        by_cases ej : a.toNat = j
        · subst ej
          rw [List.getElem?_set_self lt2] at hj
          cases hj
          exact absurd hi (nx i)
        · rw [List.getElem?_set_ne ej] at hj
          exact h.one i j x hi hj n
  · obtain ⟨rfl, rfl, rfl⟩ := q.ent.make_room e (Int.le_refl _) d0 (by omega) r
    exact ⟨.inr rfl, h, rfl⟩

theorem PF.clear (h : PF s A) (q : ActQ s A (.clear a) E s' B) (e : s.has a = true) : E = 0 ∧ PF s' B ∧ s'.hs.length = s.hs.length := by
  obtain ⟨rfl, rfl, rfl⟩ := q.ent.clear_yes e
  refine ⟨rfl, ⟨q.cyc, q.mv.trans h.mv, h.old, h.obs, fun i j x hi hj n => ?_⟩, List.length_set ..⟩
  have hi : (s.hs.set a.toNat 0)[i]? = some x := hi
  have hj : (s.hs.set a.toNat 0)[j]? = some x := hj
  have lt := (List.getElem?_eq_some_iff.1 hi).1
  rw [List.length_set] at lt
  have lt2 := (List.getElem?_eq_some_iff.1 hj).1
  rw [List.length_set] at lt2
  by_cases ei : a.toNat = i
  · subst ei
    rw [List.getElem?_set_self lt] at hi
    cases hi
    exact absurd rfl n
  · rw [List.getElem?_set_ne ei] at hi
    by_cases ej : a.toNat = j
    · subst ej
      rw [List.getElem?_set_self lt2] at hj
      cases hj
      exact absurd rfl n
    · rw [List.getElem?_set_ne ej] at hj
      exact h.one i j x hi hj n

theorem PF.now (h : PF s A) (y : Int) : A.now y = y := Hp.now_no (by rw [(h.cyc.idle h.mv).1]; simp)

theorem PF.held (h : PF s A) (n : Int) : n ∈ s.hs.filter (fun q => decide (q ≠ 0)) ↔ A.gph.Held n := by
  have hs : A.gph.hs = s.hs := by
    show A.hs.map A.now = s.hs
    rw [h.cyc.sim.hs]
    exact (List.map_congr_left fun y _ => h.now y).trans (List.map_id _)
  rw [List.mem_filter, decide_eq_true_eq]
  constructor
  · intro ⟨h1, h2⟩
    exact .root (by rw [hs]; exact h1) h2
  · intro hn
    cases hn with
    | root hh n0 => exact ⟨by rw [← hs]; exact hh, n0⟩
    | ref _ hd hr r0 =>
      have hd : (A.ob _).map (fun o : Ob => (o.rs.map A.now, o.ss)) = some _ := hd
      obtain ⟨o, ho, rfl⟩ := Option.map_eq_some_iff.1 hd
      rw [(h.obs _ o ho).1] at hr
      cases hr

theorem PF.nodup (h : PF s A) : (s.hs.filter (fun q => decide (q ≠ 0))).Nodup := nodup_filter fun i j q hi hj hq => h.one i j q hi hj (by simpa using hq)

theorem PF.sum (h : PF s A) : ∀ {l : List Int}, (∀ p ∈ l, p ∈ s.hs) → ((l.filter (fun q => decide (q ≠ 0))).map A.gph.szn).sum = (l.map (wP A)).sum
  | [], _ => rfl
  | a :: l, hl => by
    have ih := PF.sum h (l := l) fun p hp => hl p (by simp [hp])
    rw [List.map_cons, List.sum_cons, ← ih]
    by_cases z : a = 0
    · have : A.ob a = none := by
        cases e : A.ob a with
        | none => rfl
        | some o => have := h.cyc.inv.ob_pos e; omega
      rw [List.filter_cons_of_neg (by simp [z])]
      unfold wP
      rw [this, Nat.zero_add]
    · rw [List.filter_cons_of_pos (by simp [z]), List.map_cons, List.sum_cons]
      congr 1
      obtain ⟨ok, _⟩ := h.cyc.held (hl a (by simp))
      obtain ⟨o, ho⟩ := h.cyc.inv.ok_ob ok z
      have e : A.gph.nd a = some ([], o.ss) := by
        show (A.ob a).map (fun o : Ob => (o.rs.map A.now, o.ss)) = _
        rw [ho]
        simp [(h.obs a o ho).1]
      unfold Gph.szn Gph.dat wP
      rw [e, ho]
      simp

theorem PF.tight (h : PF s A) (t : 2 ≤ s.cf.tn) : Tight (Co.begun s) A.start A.gph id := tight_begun h.cyc h.mv h.old fun p _ o ho => by
  rw [(h.obs p o ho).2]
  show (if (0 : Int) + 1 ≤ 7 then 0 + 1 else 7) < _
  rw [if_pos (by omega)]
  omega
end
end Gc
end Go.Proofs.YthmhehehomieiaaGreat

/- The walk of MinorFrees. -/
namespace Go.Proofs.YthmhehehomieiaaGreat
namespace Gc
open Go.RowKit

/-- The configuration of MinorFrees. -/
def cfg7 (a b c d : Int) : Cfg := { cfgOf a b c d with tn := 7 }
theorem cfg7_may (a b c d : Int) (ha : By a) (hb : By b) (hc : By c) (hd : By d) : (cfg7 a b c d).May := by
  have m := cfgOf_may a b c d ha hb hc hd
  exact { m with tn0 := (by show (1 : Int) ≤ 7; omega), tn1 := (by show (7 : Int) ≤ 7; omega) }

def cfgL (c : Cfg) : Array Value := #[.int .i64 c.ha, .int .i64 c.nu, .int .i64 c.ps, .int .i64 c.pz, .int .i64 c.cd, .int .i64 c.bf, .int .i64 c.st, .int .i64 c.tn, .int .i64 c.lg, .int .i64 c.mi, .int .i64 c.ma, .int .i64 c.na, .int .i64 c.ja]

/-- i entries so far, and the configuration in a box. -/
def FrI (w0 w : World) (b gb : Nat) (cf : Cfg) (i : Nat) : Prop :=
  ∃ s A, Km w0 w (fun k => k = gb) b s ∧ PF s A ∧ s.cf = cf ∧ s.hs.length = cf.ha.toNat ∧ Nb i s ∧ Blk w gb (cfgL cf) 23

section
variable {w0 w w' : World} {b gb i : Nat} {cf : Cfg}

theorem has_of {s : Co} {a : Int} (a0 : 0 ≤ a) (a1 : a < s.hs.length) : s.has a = true := by
  unfold Co.has
  rw [decide_eq_true a0, decide_eq_true a1]
  rfl

theorem Nb.next {s s' : Co} (h : Nb i s) (q : Adds s s') : Nb (i + 1) s' := by
  obtain ⟨h1, h2, h3, h4, h5⟩ := q
  unfold Nb at h ⊢
  omega

theorem FrI.make (h : FrI w0 w b gb cf i) (hi : i ≤ 1000) (hh : 1 ≤ cf.ha) (hl : cf.lg ≤ 64) {a d : Int} (a0 : 0 ≤ a) (a1 : a < cf.ha) (d0 : 0 ≤ d) (d1 : d ≤ cf.lg) :
    Calls Tryz.prog 33 #[ptr b, .int .i64 a, .int .i64 0, .int .i64 d] w fun e w' => ∃ E, e = .returned (.int .i64 E) ∧ (E = 0 ∨ E = 7) ∧ FrI w0 w' b gb cf (i + 1) := by
  obtain ⟨s, A, k, pf, ec, hl2, nb, bx⟩ := h
  refine (km_make k pf.cyc (nb.few hi) a 0 d (by omega)).mono ?_
  rintro e w' ⟨s', B, E, he, q, k2, p2⟩
  obtain ⟨h1, h2, h3⟩ := pf.make q (has_of a0 (by omega)) d0 (by rw [ec]; exact d1) (by rw [ec]; exact hl)
  exact ⟨E, he, h1, s', B, k2, h2, q.cf.trans ec, h3.trans hl2, nb.next q.adds, bx.kp p2 rfl⟩
theorem FrI.clear (h : FrI w0 w b gb cf i) (hh : 1 ≤ cf.ha) {a : Int} (a0 : 0 ≤ a) (a1 : a < cf.ha) :
    Calls Tryz.prog 44 #[ptr b, .int .i64 a] w fun e w' => e = .returned (.int .i64 0) ∧ FrI w0 w' b gb cf (i + 1) := by
  obtain ⟨s, A, k, pf, ec, hl2, nb, bx⟩ := h
  refine (km_clear k pf.cyc a).mono ?_
  rintro e w' ⟨s', B, E, he, q, k2, p2⟩
  obtain ⟨rfl, h2, h3⟩ := pf.clear q (has_of a0 (by omega))
  exact ⟨he, s', B, k2, h2, q.cf.trans ec, h3.trans hl2, nb.next q.adds, bx.kp p2 rfl⟩
theorem FrI.keep (h : FrI w0 w b gb cf i) (f : Below w.heap.size w w') : FrI w0 w' b gb cf i := by
  obtain ⟨s, A, k, pf, ec, hl2, nb, bx⟩ := h
  exact ⟨s, A, k.keep f, pf, ec, hl2, nb, bx.keep f⟩
theorem FrI.more (h : FrI w0 w b gb cf i) : FrI w0 w b gb cf (i + 1) := by
  obtain ⟨s, A, k, pf, ec, hl2, nb, bx⟩ := h
  exact ⟨s, A, k, pf, ec, hl2, by unfold Nb at nb ⊢; omega, bx⟩
theorem FrI.box (h : FrI w0 w b gb cf i) : Blk w gb (cfgL cf) 23 := h.choose_spec.choose_spec.2.2.2.2.2
theorem FrI.bel (h : FrI w0 w b gb cf i) : Below w0.heap.size w0 w := h.choose_spec.choose_spec.1.bel
end

theorem wP_le {s : Co} {A : Hp} (c : Cyc s A) (p : Int) : wP A p ≤ 66 := by
  unfold wP
  cases e : A.ob p with
  | none => exact Nat.zero_le _
  | some o =>
    have gd := (goodB_iff ..).1 (c.sim.laid.lies.at_ p o e).good
    have : o.n = o.rs.length + o.ss.length := rfl
    show o.ss.length + 2 ≤ 66
    omega
theorem wP_sum {s : Co} {A : Hp} (c : Cyc s A) : ∀ l : List Int, (l.map (wP A)).sum ≤ 66 * l.length
  | [] => Nat.le_refl _
  | a :: l => by
    have := wP_sum c l
    have := wP_le c a
    rw [List.map_cons, List.sum_cons, List.length_cons]
    omega
theorem usedI_none : ∀ {l : List Rc}, (∀ c ∈ l, c.used = false) → usedI l = 0
  | [], _ => rfl
  | c :: l, h => by
    unfold usedI
    rw [h c (by simp), usedI_none fun d hd => h d (by simp [hd])]
    rfl

/-- What handles hold is counted: k of them. -/
def FrW (w0 w : World) (b gb : Nat) (cf : Cfg) (s : Co) (A : Hp) (k : Nat) (x : Int) : Prop :=
  Km w0 w (fun k => k = gb) b s ∧ Blk w gb (cfgL cf) 23 ∧ x = (((s.hs.take k).map (wP A)).sum : Nat)

/-- The cycle: so far j steps. -/
def FrE (w0 w : World) (b gb : Nat) (cf : Cfg) (G : Gph) (L j : Nat) (mv : Bool) : Prop :=
  ∃ t B, Km w0 w (fun k => k = gb) b t ∧ Cyc t B ∧ t.cf = cf ∧ t.mv = mv ∧ (∃ f, Tight t B G f) ∧ (mv = true → left_ t B + j ≤ L)

section
variable {w0 w w' : World} {b gb k j L : Nat} {cf : Cfg} {s : Co} {A : Hp} {x : Int} {mv : Bool} {G : Gph}

theorem FrW.shape (h : FrW w0 w b gb cf s A k x) (pf : PF s A) (hk : k < s.hs.length) :
    Calls Tryz.prog 34 #[ptr b, .int .i64 k] w fun e w' => ∃ n f, e = .returned (.tuple #[.int .i64 (shE s A k).1, .int .i64 n, .int .i64 f]) ∧ 0 ≤ n ∧ n ≤ 64 ∧ FrW w0 w' b gb cf s A k x ∧
      (f = 0 → FrW w0 w' b gb cf s A (k + 1) (x + n + 2)) ∧ (f ≠ 0 → FrW w0 w' b gb cf s A (k + 1) x) := by
  obtain ⟨km, bx, hx⟩ := h
  have e := has_of (s := s) (a := k) (by omega) (by omega)
  have hp : s.hs[k]? = some (s.at_ k) := by
    unfold Co.at_
    rw [if_pos e, Int.toNat_natCast, List.getD_eq_getElem?_getD, List.getElem?_eq_getElem hk]
    rfl
  have tk : s.hs.take (k + 1) = s.hs.take k ++ [s.at_ k] := by rw [List.take_add_one, hp]; rfl
  have le := wP_le pf.cyc (s.at_ k)
  have sm : (((s.hs.take (k + 1)).map (wP A)).sum : Nat) = ((s.hs.take k).map (wP A)).sum + wP A (s.at_ k) := by
    rw [tk, List.map_append, List.sum_append, List.map_cons, List.map_nil, List.sum_cons, List.sum_nil, Nat.add_zero]
  refine (km.look fun S hC => shape_cyc hC pf.cyc e).mono ?_
  rintro e' w' ⟨he, k2, p2⟩
  have b2 := bx.kp p2 rfl
  unfold wP at le sm
  unfold shE at he ⊢
  cases ho : A.ob (s.at_ k) with
  | none =>
    rw [ho] at he sm
    have sm : _ = _ + 0 := sm
    exact ⟨0, 4, he, Int.le_refl _, by omega, ⟨k2, b2, hx⟩, fun z => absurd z (by decide), fun _ => ⟨k2, b2, by rw [hx]; unfold wP; omega⟩⟩
  | some o =>
    rw [ho] at he sm le
    have le : o.ss.length + 2 ≤ 66 := le
    have sm : _ = _ + (o.ss.length + 2) := sm
    exact ⟨o.ss.length, 0, he, by show (0 : Int) ≤ o.ss.length; omega, by show (o.ss.length : Int) ≤ 64; omega, ⟨k2, b2, hx⟩, fun _ => ⟨k2, b2, by rw [hx]; unfold wP; show _ + (o.ss.length : Int) + 2 = _; omega⟩, fun z => absurd rfl z⟩

theorem FrW.few (h : FrW w0 w b gb cf s A k x) (pf : PF s A) (hk : s.hs.length ≤ 64) : 0 ≤ x ∧ x ≤ 4224 := by
  obtain ⟨_, _, rfl⟩ := h
  have := wP_sum pf.cyc (s.hs.take k)
  have := List.length_take_le k s.hs
  have : (s.hs.take k).length ≤ s.hs.length := by rw [List.length_take]; omega
  omega

theorem FrW.start (h : FrW w0 w b gb cf s A k x) (pf : PF s A) (ec : s.cf = cf) (t : 2 ≤ cf.tn) (hL : 2 * cf.nu + cf.bf + cf.ps * cf.pz + 1 ≤ (L : Int)) :
    Calls Tryz.prog 52 #[ptr b] w fun e w' => e = .returned (.bool true) ∧ FrE w0 w' b gb cf A.gph L 0 true := by
  obtain ⟨km, bx, hx⟩ := h
  refine (km_start km pf.cyc).mono ?_
  rintro e w' ⟨s', B, he, q, k2, p2⟩
  rw [pf.mv] at he
  obtain ⟨pr, _⟩ := q.begun pf.mv
  obtain ⟨S, hC⟩ := k2.cr
  have lf := left_few hC q.cyc
  rw [q.cf.trans ec] at lf
  exact ⟨he, s', B, k2, q.cyc, q.cf.trans ec, q.mv, pr.tight ⟨id, pf.tight (by rw [ec]; exact t)⟩, fun _ => by omega⟩

theorem FrE.moving (h : FrE w0 w b gb cf G L j mv) : w.cell? ⟨b, 21, none⟩ = some (.bool mv) := by
  obtain ⟨s, A, k, _, _, rfl, _⟩ := h
  exact km_moving k
theorem FrE.few (h : FrE w0 w b gb cf G L j true) : j ≤ L := by
  obtain ⟨s, A, k, _, _, _, _, h1⟩ := h
  have := h1 rfl
  omega
theorem FrE.step (h : FrE w0 w b gb cf G L j true) : Calls Tryz.prog 50 #[ptr b] w fun e w' => ∃ n y, e = .returned (.tuple #[.int .i64 n, .bool y]) ∧ FrE w0 w' b gb cf G L (j + 1) y := by
  obtain ⟨s, A, k, c, e1, hm, tg, h1⟩ := h
  refine (km_step k c).mono ?_
  rintro e w' ⟨s', B, n, y, he, q, k2, p2⟩
  obtain ⟨_, _, q1, _⟩ := q.yes hm
  exact ⟨n, y, he, s', B, k2, q.cyc, q.cf.trans e1, q.mv, q.tight hm tg, fun e => by have := (q1 e).1; have := h1 rfl; omega⟩

/-- At the end there is just what is held. -/
theorem FrE.stats (h : FrE w0 w b gb cf A.gph L j false) (pf : PF s A) :
    Calls Tryz.prog 20 #[ptr b] w fun e w' => (∃ a c d m f r, e = .returned (stV8 a c d m f (((s.hs.map (wP A)).sum : Nat) : Int) 0 r)) ∧ FrE w0 w' b gb cf A.gph L j false ∧ Below w.heap.size w w' := by
  obtain ⟨t, B, k, c, ec, hm, ⟨f, g⟩, h1⟩ := h
  have wd := g.words c hm pf.nodup pf.held
  rw [pf.sum fun p hp => hp] at wd
  have us : t.used = 0 := usedI_none fun r hr => by
    cases e : r.used with
    | false => rfl
    | true =>
      have : r.pos ∈ B.O := (c.sim.laid.old _).2 ⟨r, ⟨hr, e⟩, rfl⟩
      rw [g.old] at this
      cases this
  refine (km_stats k c).mono ?_
  rintro e w' ⟨he, bl⟩
  rw [us, wd.2, wd.1, Int.add_zero] at he
  exact ⟨⟨_, _, _, _, _, _, he⟩, ⟨t, B, k.keep bl, c, ec, hm, ⟨f, g⟩, h1⟩, bl⟩
theorem FrE.keep (h : FrE w0 w b gb cf G L j mv) (f : Below w.heap.size w w') : FrE w0 w' b gb cf G L j mv := by
  obtain ⟨t, B, k, r⟩ := h
  exact ⟨t, B, k.keep f, r⟩
theorem FrE.bel (h : FrE w0 w b gb cf G L j mv) : Below w0.heap.size w0 w := by
  obtain ⟨t, B, k, _⟩ := h
  exact k.bel
end

set_option maxHeartbeats 1500000 in
set_option maxRecDepth 100000 in
theorem minorFrees_walk (a b c d : Int) (ha : By a) (hb : By b) (hc : By c) (hd : By d) (A4 : Option Addr) (n4 c4 : Nat) (A5 : Option Addr) (n5 c5 : Nat) (w : World) (rd4 : RdN .u8 0 255 w A4 n4) (_ : n4 ≤ c4) (_ : c4 ≤ maxLen)
    (rd5 : RdN .u8 0 255 w A5 n5) (_ : n5 ≤ c5) (_ : c5 ≤ maxLen) :
    Calls Tryz.prog 13 #[.int .u8 a, .int .u8 b, .int .u8 c, .int .u8 d, .slice A4 n4 c4, .slice A5 n5 c5] w fun e w' => e = .returned (.bool true) ∧ Below w.heap.size w w' := by
  have SM : Hid (2 * (cfg7 a b c d).nu + (cfg7 a b c d).bf + (cfg7 a b c d).ps * (cfg7 a b c d).pz + 1 ≤ 938 ∧ 1 ≤ (cfg7 a b c d).ha ∧ (cfg7 a b c d).ha ≤ 6 ∧ 0 ≤ (cfg7 a b c d).lg ∧ (cfg7 a b c d).lg ≤ 8 ∧ (cfg7 a b c d).tn = 7) := Lib.hid (by
    obtain ⟨a0, a1⟩ := ha
    obtain ⟨b0, b1⟩ := hb
    obtain ⟨c0, c1⟩ := hc
    obtain ⟨d0, d1⟩ := hd
    have p := mul_in (a := b / 16 % 12 + 1) (b := 16 + 16 * (a / 64)) (A := 12) (B := 64) (by omega) (by omega) (by omega) (by omega)
    refine ⟨?_, by show 1 ≤ a % 5 + 2; omega, by show a % 5 + 2 ≤ 6; omega, by show 0 ≤ d % 8 + 1; omega, by show d % 8 + 1 ≤ 8; omega, rfl⟩
    show 2 * (24 + b % 60) + c / 4 % 4 + (b / 16 % 12 + 1) * (16 + 16 * (a / 64)) + 1 ≤ 938
    omega)
  have HC := Lib.hid (config14_any a b c d ha hb hc hd)
  have HM := Lib.hid (cfg7_may a b c d ha hb hc hd)
  have R4 := Lib.hid rd4
  have R5 := Lib.hid rd5
  clear ha hb hc hd rd4 rd5
  go_enter Tryz.func13, Tryz.ntmps13
  go_wp2_with fail
  refine (HC.out _).mono ?_
  rintro e w1 ⟨rfl, b1⟩
  have B1 := Lib.hid b1
  clear b1 HC
  go_wp2_with fail
  refine (km_new (w0 := w) (Z := fun k => k = w1.heap.size) HM.out (B1.out.alloc B1.out.size _) (fun k e => ⟨by have := B1.out.size; omega, by subst e; simp⟩)).mono ?_
  rintro e w2 ⟨b0, pt, rfl, k2, p2⟩
  have X2 := Lib.hid ((Blk.new w1 (cfgL (cfg7 a b c d)) 23).kp p2 rfl)
  have K2 := Lib.hid k2
  clear k2 p2 B1
  go_wp2_with fail
  refine (awake14_walk _).mono ?_
  rintro e w3 ⟨rfl, b3⟩
  have KL : Hid (FrI w w3 b0 w1.heap.size (cfg7 a b c d) 0) := Lib.hid ⟨_, _, K2.out.keep b3, PF.fresh HM.out pt, rfl, zeros_length _, nb_fresh, X2.out.keep b3⟩
  clear b3 K2 HM X2
  generalize cfg7 a b c d = cf at *
  generalize w1.heap.size = gb at *
  go_upto_block 0 with (fail)
  go_cut [16] (fun _ wc => Hid (∃ i, FrI w wc b0 gb cf i))
  case first =>
    go_wp2_with fail
    go_loopw [16] (fun s16 wr => ∃ (i : Nat), i ≤ n4 ∧ i ≤ 60 ∧ s16 = .int .i64 i ∧ Hid (FrI w wr b0 gb cf (2 * i))) (fun s16 _ => n4 - (intOf s16).toNat)
    case atStart => exact ⟨0, Nat.zero_le _, Nat.zero_le _, rfl, KL⟩
    case round =>
      clear KL
      obtain ⟨i, hi, hi2, rfl, KL⟩ := hrel
      by_cases hlt : i < n4 ∧ i < 60
      · obtain ⟨h1, h2⟩ := hlt
        obtain ⟨ad, x, rfl, x0, x1, hx⟩ := R4.out i h1
        have ci := hx wr KL.out.bel
        have h3 : (i : Int) < (n4 : Int) := by omega
        have h4 : (i : Int) < 60 := by omega
        have h5 : (0 : Int) ≤ (i : Int) := by omega
        obtain ⟨sm0, ha1, ha6, lg0, lg8, _⟩ := SM.out
        obtain ⟨X, hX⟩ : ∃ X, (i : Int).tmod cf.ha = X := ⟨_, rfl⟩
        have hXe : (i : Int) % cf.ha = X := by rw [← hX, Int.tmod_eq_emod_of_nonneg h5]
        have hX2 : 0 ≤ X ∧ X < cf.ha := by rw [← hX, Int.tmod_eq_emod_of_nonneg h5]; exact ⟨Int.emod_nonneg _ (by omega), Int.emod_lt_of_pos _ (by omega)⟩
        have hD2 : 0 ≤ x % (cf.lg + 1) ∧ x % (cf.lg + 1) ≤ cf.lg := ⟨Int.emod_nonneg _ (by omega), by have := Int.emod_lt_of_pos x (show 0 < cf.lg + 1 by omega); omega⟩
        have HM := Lib.hid (fun w' (h : FrI w w' b0 gb cf (2 * i)) => h.make (by omega) ha1 (by omega) hX2.1 hX2.2 hD2.1 hD2.2)
        have hw : IntKind.i64.wrap (cf.lg + 1) = cf.lg + 1 := IntWalk.i64_in _ (by omega)
        have z1 : ¬ cf.ha = 0 := by omega
        have z2 : ¬ cf.lg + 1 = 0 := by omega
        have bx := KL.out.box
        have g0 : wr.cell? ⟨gb, 0, none⟩ = some (.int .i64 cf.ha) := bx.cell 0
        have g8 : wr.cell? ⟨gb, 8, none⟩ = some (.int .i64 cf.lg) := bx.cell 8
        clear bx
        go_wp2_with fail
        go_still_tail 14, (by kernel_rfl)
        change wpList _ _ _ _ _ wr.drew
        have HK := Lib.hid (HM.out _ (KL.out.keep (below_drew wr)))
        clear ci g0 g8 KL HM
        go_wp2_with fail
        refine HK.out.mono ?_
        rintro e w4 ⟨E, rfl, he, k4⟩
        have K4 := Lib.hid k4
        clear k4 HK
        rcases he with rfl | rfl
        · by_cases l5 : i < n5
          · obtain ⟨ad5, y, rfl, y0, y1, hy⟩ := R5.out i l5
            have cy := hy w4 K4.out.bel
            have h6 : (i : Int) < (n5 : Int) := by omega
            have hPe : y.tmod 2 = y % 2 := Int.tmod_eq_emod_of_nonneg y0
            by_cases ev : y % 2 = 0
            · have ev2 : y.tmod 2 = 0 := by rw [hPe]; exact ev
              clear hPe
              have hQ2 : 0 ≤ y % cf.ha ∧ y % cf.ha < cf.ha := ⟨Int.emod_nonneg _ (by omega), Int.emod_lt_of_pos _ (by omega)⟩
              have bx := K4.out.box
              have g0 : w4.cell? ⟨gb, 0, none⟩ = some (.int .i64 cf.ha) := bx.cell 0
              have HK := Lib.hid (FrI.clear (K4.out.keep (below_drew w4)) ha1 hQ2.1 hQ2.2)
              clear bx K4
              go_wp2_with fail
              go_still_tail 9, (by kernel_rfl)
              change wpList _ _ _ _ _ w4.drew
              clear cy g0
              go_wp2_with fail
              refine HK.out.mono ?_
              rintro e w5 ⟨rfl, k5⟩
              have KN : Hid (FrI w w5 b0 gb cf (2 * (i + 1))) := Lib.hid k5
              clear k5 HK
              go_wp2
              go_roundw
              case rel => exact ⟨i + 1, by omega, by omega, by go_num, KN⟩
              case measure => simp [intOf]; omega
            · have KN : Hid (FrI w w4 b0 gb cf (2 * (i + 1))) := Lib.hid K4.out.more
              have ev2 : (y.tmod 2 == 0) = false := by rw [hPe, beq_eq_false_iff_ne]; exact ev
              have ev3 : (y % 2 == 0) = false := by rw [beq_eq_false_iff_ne]; exact ev
              clear hPe
              clear K4
              go_wp2
              go_roundw
              case rel => exact ⟨i + 1, by omega, by omega, by go_num, KN⟩
              case measure => simp [intOf]; omega
          · have h6 : ¬ ((i : Int) < (n5 : Int)) := by omega
            have KN : Hid (FrI w w4 b0 gb cf (2 * (i + 1))) := Lib.hid K4.out.more
            clear K4
            go_wp2
            go_roundw
            case rel => exact ⟨i + 1, by omega, by omega, by go_num, KN⟩
            case measure => simp [intOf]; omega
        · have KN : Hid (∃ i, FrI w w4 b0 gb cf i) := Lib.hid ⟨_, K4.out⟩
          clear K4
          go_wp2
          go_meet
          case rel => exact KN
      · have hlt : ((i : Int) < (n4 : Int) ∧ ¬ ((i : Int) < 60)) ∨ ¬ ((i : Int) < (n4 : Int)) := by omega
        have KN : Hid (∃ i, FrI w wr b0 gb cf i) := Lib.hid ⟨_, KL.out⟩
        clear KL
        rcases hlt with ⟨g1, g2⟩ | g1
        all_goals
          go_wp2
          go_meet
          case rel => exact KN
  case rest =>
    as_aux_lemma =>
    clear KL R4 R5
    obtain ⟨i, hF⟩ := hcut.out
    obtain ⟨s, A, k, pf, ec, hl, _, bx⟩ := hF
    have PF := Lib.hid pf
    have EC := Lib.hid ec
    obtain ⟨sm0, ha1, ha6, lg0, lg8, tn⟩ := SM.out
    obtain ⟨H, hH⟩ : ∃ H, s.hs.length = H := ⟨_, rfl⟩
    have hH2 : (H : Int) = cf.ha := by omega
    have HL := Lib.hid hH
    have W0 : Hid (FrW w wc b0 gb cf s A 0 0) := Lib.hid ⟨k, bx, rfl⟩
    clear k pf ec hl bx hcut hH
    generalize wc = wo at *
    go_wp2_with fail
    go_loopw [17, 18] (fun s17 s18 wr => ∃ (k : Nat) (x : Int), k ≤ H ∧ s18 = .int .i64 k ∧ s17 = .int .i64 x ∧ Hid (FrW w wr b0 gb cf s A k x)) (fun _ s18 _ => H - (intOf s18).toNat)
    case atStart => exact ⟨0, 0, Nat.zero_le _, rfl, rfl, W0⟩
    case round =>
      clear W0
      obtain ⟨k, x, hk, rfl, rfl, WK⟩ := hrel
      have fx := WK.out.few PF.out (by have := HL.out; omega)
      have g0 : wr.cell? ⟨gb, 0, none⟩ = some (.int .i64 cf.ha) := WK.out.2.1.cell 0
      by_cases hlt : k < H
      · have h3 : (k : Int) < cf.ha := by omega
        have HS := Lib.hid (WK.out.shape PF.out (by have := HL.out; omega))
        clear WK
        go_wp2_with fail
        refine HS.out.mono ?_
        rintro e w5 ⟨n, f, rfl, n0, n64, _, hy, hn⟩
        by_cases f0 : f = 0
        · have KN := Lib.hid (hy f0)
          have hw1 : IntKind.i64.wrap (x + n) = x + n := IntWalk.i64_in _ (by omega)
          have hw2 : IntKind.i64.wrap (x + n + 2) = x + n + 2 := IntWalk.i64_in _ (by omega)
          have f1 : (f == 0) = true := by rw [f0]; rfl
          clear hy hn HS g0 f0
          go_wp2
          go_roundw
          case rel => exact ⟨k + 1, _, by omega, by go_num, rfl, KN⟩
          case measure => simp [intOf]; omega
        · have KN := Lib.hid (hn f0)
          have f1 : (f == 0) = false := by rw [beq_eq_false_iff_ne]; exact f0
          clear hy hn HS g0 f0
          go_wp2
          go_roundw
          case rel => exact ⟨k + 1, _, by omega, by go_num, rfl, KN⟩
          case measure => simp [intOf]; omega
      · have h3 : ¬ ((k : Int) < cf.ha) := by omega
        have ex : x = (((s.hs.map (wP A)).sum : Nat) : Int) := by
          have e := WK.out.2.2
          rw [List.take_of_length_le (by have := HL.out; omega)] at e
          exact e
        have HS := Lib.hid (FrW.start (L := 938) WK.out PF.out EC.out (by omega) (by omega))
        generalize wr = wq at *
        clear WK
        go_wp2_with fail
        refine HS.out.mono ?_
        rintro e w5 ⟨rfl, f5⟩
        have F5 := Lib.hid f5
        clear f5 HS g0
        go_wp2_with fail
        go_loopw [22] (fun s22 wr => ∃ (j : Nat) (mv : Bool), j ≤ 939 ∧ s22 = .int .i64 j ∧ Hid (FrE w wr b0 gb cf A.gph 938 j mv)) (fun s22 _ => 1000 - (intOf s22).toNat)
        case atStart => exact ⟨0, true, by omega, rfl, F5⟩
        case round =>
          clear F5
          obtain ⟨j, mv, hj, rfl, FJ⟩ := hrel
          have c21 := FJ.out.moving
          have j3 : (j : Int) < 1000 := by omega
          cases mv
          · have HS := Lib.hid (FJ.out.stats PF.out)
            clear FJ
            go_wp2_with fail
            refine HS.out.mono ?_
            rintro e w6 ⟨⟨a1, a2, a3, a4, a5, a6, rfl⟩, f6, b6⟩
            rw [← ex]
            clear ex
            have bb := (Below.refl _ w6).alloc (Nat.le_refl _) (stO8 a1 a2 a3 a4 a5 x 0 a6)
            have F7 := f6.keep bb
            have c21 := F7.moving
            have X7 := Blk.new w6 (stL8 a1 a2 a3 a4 a5 x 0 a6) 31
            have s5 := X7.cell 5
            have s6 := X7.cell 6
            have BE := Lib.hid F7.bel
            clear f6 b6 bb F7 X7 HS
            go_wp2
            go_ret
            exact ⟨by simp, BE.out⟩
          · have jl := FJ.out.few
            have HS := Lib.hid FJ.out.step
            clear FJ
            go_wp2_with fail
            refine HS.out.mono ?_
            rintro e w6 ⟨n, y, rfl, f6⟩
            have F6 := Lib.hid f6
            clear f6 HS c21
            go_wp2
            go_roundw
            case rel => exact ⟨j + 1, y, by omega, by go_num, F6⟩
            case measure => simp [intOf]; omega
end Gc
end Go.Proofs.YthmhehehomieiaaGreat

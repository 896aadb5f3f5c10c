/- Texts of the layers below, joined: CoX ArgR Nums StepR ConfR. -/
import Derived.Test.YthmhehehomieiaaGreatJoinF
import Derived.Deep.Slices
import Derived.Deep.Fields
import Derived.ChangeSame

/- The walks of awake and of CoreNone. -/
namespace Go.Proofs.YthmhehehomieiaaGreat
open Go.RowKit

abbrev awC : Cfg := cfgOf 3 40 80 20
def aw0 : Gr := Gr.none_ awC
def aw1 : Gr := stG awC.nu aw0 1 0 1 2 0
def aw2 : Gr := stG awC.nu aw1 1 1 0 1 0
def aw3 : Gr := (aw2.change 3 0 0 1 0).2
def aw4 : Gr := (aw3.change 5 0 1 0 77).2
def aw5 : Gr := (aw4.change 2 2 0 0 0).2
theorem aw_1 : stE awC.nu aw0 1 0 1 2 0 = 0 := by decide
theorem aw_2 : stE awC.nu aw1 1 1 0 1 0 = 0 := by decide
theorem aw_3 : (aw2.change 3 0 0 1 0).1 = 0 := by decide
theorem aw_4 : (aw3.change 5 0 1 0 77).1 = 0 := by decide
theorem aw_5 : (aw4.change 2 2 0 0 0).1 = 0 := by decide
theorem aw_6 : aw5.ask 4 0 1 = (0, false, 0, 77) := by decide
theorem aw_7 : aw5.ask 8 1 2 = (0, true, 0, 0) := by decide
theorem aw_8 : aw5.ask 10 0 0 = (0, false, 1, 2) := by decide
theorem aw_9 : (aw5.change 3 0 1 1 0).1 = 5 := by decide
theorem aw_9' : (aw5.change 3 0 1 1 0).2 = aw5 := rfl
theorem aw_10 : (aw5.change 2 0 3 0 0).1 = 4 := by decide
theorem aw_10' : (aw5.change 2 0 3 0 0).2 = aw5 := rfl
theorem aw_11 : (aw5.change 6 99 0 0 0).1 = 3 := by decide
theorem aw_11' : (aw5.change 6 99 0 0 0).2 = aw5 := rfl
theorem aw_12 : (tot aw5.ns : Int) = 8 := by decide

theorem stat_young (a c d e f y o r : Int) (w : World) : (Instr.field 31 (stV8 a c d e f y o r) 5).run Tryz.prog w = .ok (.int .i64 y) w := by kernel_rfl

set_option maxHeartbeats 8000000 in
set_option maxRecDepth 100000 in
theorem awake13_walk (w : World) : Calls Tryz.prog 18 #[] w fun e w' => e = .returned (.bool true) ∧ Below w.heap.size w w' := by
  have by_ : ∀ n : Int, 0 ≤ n → n ≤ 255 → By n := fun n h0 h1 => ⟨h0, h1⟩
  have HM := Lib.hid (cfgOf_may 3 40 80 20 (by_ _ (by omega) (by omega)) (by_ _ (by omega) (by omega)) (by_ _ (by omega) (by omega)) (by_ _ (by omega) (by omega)))
  have HC := Lib.hid (config_any 3 40 80 20 (by_ _ (by omega) (by omega)) (by_ _ (by omega) (by omega)) (by_ _ (by omega) (by omega)) (by_ _ (by omega) (by omega)) w)
  clear by_
  go_enter Tryz.func18, Tryz.ntmps18
  go_wp2_with fail
  refine HC.out.mono ?_
  rintro e w1 ⟨rfl, b1⟩
  have HN := Lib.hid (kg_new (w0 := w) (Z := noZ) HM.out b1 (fun _ e => e.elim))
  clear b1 HC
  go_wp2_with fail
  refine HN.out.mono ?_
  rintro e w2 ⟨b, rfl, k2, _⟩
  have K2 := Lib.hid (show Kg w w2 noZ b awC aw0 from k2)
  clear k2 HN
  go_wp2_with fail
  have h := kg_make K2.out 0 1 2 (by omega)
  rw [aw_1] at h
  refine h.mono ?_
  rintro e w3 ⟨rfl, k3, _⟩
  have K3 := Lib.hid (show Kg w w3 noZ b awC aw1 from k3)
  clear k3 h K2
  go_wp2_with fail
  have h := kg_make K3.out 1 0 1 (by omega)
  rw [aw_2] at h
  refine h.mono ?_
  rintro e w4 ⟨rfl, k4, _⟩
  have K4 := Lib.hid (show Kg w w4 noZ b awC aw2 from k4)
  clear k4 h K3
  go_wp2_with fail
  have h := kg_set K4.out 0 0 1
  rw [aw_3] at h
  refine h.mono ?_
  rintro e w5 ⟨rfl, k5, _⟩
  have K5 := Lib.hid (show Kg w w5 noZ b awC aw3 from k5)
  clear k5 h K4
  go_wp2_with fail
  have h := kg_write K5.out 0 1 77
  rw [aw_4] at h
  refine h.mono ?_
  rintro e w6 ⟨rfl, k6, _⟩
  have K6 := Lib.hid (show Kg w w6 noZ b awC aw4 from k6)
  clear k6 h K5
  go_wp2_with fail
  have h := kg_get K6.out 2 0 0
  rw [aw_5] at h
  refine h.mono ?_
  rintro e w7 ⟨rfl, k7, _⟩
  have K7 := Lib.hid (show Kg w w7 noZ b awC aw5 from k7)
  clear k7 h K6
  go_wp2_with fail
  have h := kg_read K7.out 0 1
  rw [aw_6] at h
  refine h.mono ?_
  rintro e w8 ⟨rfl, k8, _⟩
  have K8 := Lib.hid k8
  clear k8 h K7
  go_wp2_with fail
  have h := kg_same K8.out 1 2
  rw [aw_7] at h
  refine h.mono ?_
  rintro e w9 ⟨rfl, rfl⟩
  clear h
  go_wp2_with fail
  have h := kg_shape K8.out 0
  rw [aw_8] at h
  refine h.mono ?_
  rintro e w10 ⟨rfl, k10, _⟩
  have K10 := Lib.hid k10
  clear k10 h K8
  go_wp2_with fail
  have h := kg_set K10.out 0 1 1
  rw [aw_9, aw_9'] at h
  refine h.mono ?_
  rintro e w11 ⟨rfl, k11, _⟩
  have K11 := Lib.hid k11
  clear k11 h K10
  go_wp2_with fail
  have h := kg_get K11.out 0 3 0
  rw [aw_10, aw_10'] at h
  refine h.mono ?_
  rintro e w12 ⟨rfl, k12, _⟩
  have K12 := Lib.hid k12
  clear k12 h K11
  go_wp2_with fail
  have h := kg_clear K12.out 99
  rw [aw_11, aw_11'] at h
  refine h.mono ?_
  rintro e w13 ⟨rfl, k13, _⟩
  have K13 := Lib.hid k13
  clear k13 h K12
  go_wp2_with fail
  have h := kg_stats K13.out
  rw [aw_12] at h
  generalize (aw5.ns.length : Int) = p at h
  generalize awC.ps * awC.pz = q at h
  refine h.mono ?_
  rintro e w14 ⟨rfl, b14⟩
  have B := Lib.hid (below_trans K13.out.bel b14)
  clear b14 h K13
  have hst := stat_young p 8 0 0 0 8 0 q w14
  go_wp2
  go_ret
  exact ⟨rfl, B.out⟩
end Go.Proofs.YthmhehehomieiaaGreat

/- A number as an argument fits its kind. -/
namespace Go.Proofs.YthmhehehomieiaaGreat

theorem bounds_int {k : IntKind} {n : Int} (h : (Lit.int k n).wf = true) : k.min ≤ n ∧ n ≤ k.max := by
  simpa [Lit.wf] using h
end Go.Proofs.YthmhehehomieiaaGreat

/- A slice of numbers of any kind as an argument, and as it is read later; a slice of structs as an argument. -/
namespace Go.Proofs.YthmhehehomieiaaGreat
open Go.RowKit Go.ChangeShapes Go.WideShapes Go.Deep

/-- A slice of numbers from lo to hi as it came in: nil let in. -/
def RdN (k : IntKind) (lo hi : Int) (w : World) (A : Option Addr) (n : Nat) : Prop :=
  ∀ i, i < n → ∃ ad x, A = some ad ∧ lo ≤ x ∧ x ≤ hi ∧ ∀ w', Below w.heap.size w w' → w'.cell? (ad.add i) = some (.int k x)

theorem open_nums {H : Type} {enc : TypeId × Value → H} {P : Program} {w : World} {r : Reach} {b0 : Nat} {t e : TypeId} {k : IntKind} {v : Value} {d : DataW H} {ps : List MemPlace} (lo hi : Int)
    (ht : P.underlying t = some (.slice e)) (he : P.underlying e = some (.int k)) (hc : P.cellsOf e = 1) (hlo : k.min = lo) (hhi : k.max = hi) (hv : Value.okWide P w r b0 t v) (h : DataW.Trod enc P w 0 (fun _ => true) true t v d ps) :
    ∃ A n c, v = .slice A n c ∧ n ≤ c ∧ c ≤ maxLen ∧ RdN k lo hi w A n := by
  obtain ⟨A, n, c, xs, rfl, nc, cm, rd, wf⟩ := open_rd ht he hc hv h
  refine ⟨A, n, c, rfl, nc, cm, fun i hi' => ?_⟩
  have hl := rd.1
  have hx : xs[i]? = some (xs[i]'(by omega)) := List.getElem?_eq_getElem (by omega)
  obtain ⟨ad, e, hb, hc⟩ := rd.2 i _ hx
  have k := bounds_int (wf _ (List.mem_of_getElem? hx))
  exact ⟨ad, _, e, by rw [← hlo]; exact k.1, by rw [← hhi]; exact k.2, fun w' hb' => (hb'.cell (p := ad.add i) (by rw [block_of_add]; exact hb)).trans hc⟩

section
variable {H : Type} {enc : TypeId × Value → H} {P : Program} {w : World} {base : Nat} {spare : Nat → Bool} {held : Bool}
/-- A slice of structs whose fields take one cell each: the cells of each, with each field's own reading. -/
theorem open_structs {r : Reach} {b0 : Nat} {t e : TypeId} {fs : Array Field} {v : Value} {d : DataW H} {ps : List MemPlace} (ht : P.underlying t = some (.slice e)) (he : P.underlying e = some (.struct fs))
    (hone : oneCellFields P fs = true) (hC : P.cellsOf e = fs.size) (hv : Value.okWide P w r b0 t v) (h : DataW.Trod enc P w base spare held t v d ps) :
    ∃ A n c, v = .slice A n c ∧ n ≤ c ∧ c ≤ maxLen ∧ ∀ i, i < n → ∃ a m, A = some a ∧ ∀ (j : Nat) (f : Field), fs[j]? = some f → ∃ (x : Value) (y : DataW H × List MemPlace), w.cell? (a.add (i * fs.size + j)) = some x ∧ DataW.trod enc P w base spare held m f.type [x] = some y := by
  obtain ⟨A, n, c, rfl⟩ := okWide_slice ht hv
  obtain ⟨fuel, hf⟩ := h
  rcases open_slice ht hf with ⟨h0, _⟩ | ⟨a, len, cap, m, nn, D, Pl, hcs, _, hl, hm, hmm, _, hi⟩
  · simp [Value.cells] at h0
    obtain ⟨rfl, rfl, rfl⟩ := h0
    exact ⟨none, 0, 0, rfl, Nat.le_refl _, Nat.zero_le _, fun i hi => absurd hi (by omega)⟩
  · simp [Value.cells] at hcs
    obtain ⟨rfl, rfl, rfl⟩ := hcs
    refine ⟨some a, n, c, rfl, hl, hm, fun i hin => ?_⟩
    have him : i < m := by rw [hmm]; split <;> omega
    obtain ⟨cs', hc, ht'⟩ := hi i him
    rw [hC] at hc
    obtain ⟨ys, n', _, _, hlen, hyl, hff⟩ := DataW.trod_struct he ht'
    obtain ⟨_, hcl, hat⟩ := World.cells?_some hc
    refine ⟨a, n', rfl, fun j f hj => ?_⟩
    obtain ⟨ho, hk⟩ := hone_of hone j f hj
    have hjl : j < fs.size := (Array.getElem?_eq_some_iff.1 hj).1
    have hcell := hat j hjl
    have hvj : cs'[j]? = some (cs'[j]'(by omega)) := List.getElem?_eq_getElem (by omega)
    have h1 := hff j f hj
    rw [ho, hk] at h1
    have hone' : (cs'.drop j).take 1 = [cs'[j]'(by omega)] := by
      rw [List.drop_eq_getElem_cons (by omega)]
      rfl
    rw [hone'] at h1
    have hys : ys[j]? = some (ys[j]'(by omega)) := List.getElem?_eq_getElem (by omega)
    exact ⟨_, _, by rw [← Go.Deep.add_add, hcell, hvj], h1.trans hys⟩
end

theorem add_more (a : Addr) (i j : Nat) (hj : j ≠ 0) : a.add (i + j) = ⟨(a.add i).block, (a.add i).off + j, none⟩ := by
  unfold Addr.add
  by_cases hi : i = 0
  · subst hi; simp [hj]
  · simp [hi, Nat.add_assoc]

/-- A slice of two numbers each, as it came in: nil let in. -/
def RdA (w : World) (A : Option Addr) (n : Nat) : Prop :=
  ∀ i, i < n → ∃ ad x0 x1, A = some ad ∧ -9223372036854775808 ≤ x1 ∧ x1 ≤ 9223372036854775807 ∧
    ∀ w', Below w.heap.size w w' → w'.cell? (ad.add (i * 2)) = some (.int .i64 x0) ∧ w'.cell? ⟨(ad.add (i * 2)).block, (ad.add (i * 2)).off + 1, none⟩ = some (.int .i64 x1)

theorem open_pairs {H : Type} {enc : TypeId × Value → H} {P : Program} {w : World} {base : Nat} {spare : Nat → Bool} {held : Bool} {r : Reach} {b0 : Nat} {t e ti : TypeId} {f0 f1 : Field} {v : Value} {d : DataW H} {p : List MemPlace}
    (ht : P.underlying t = some (.slice e)) (he : P.underlying e = some (.struct #[f0, f1])) (hone : oneCellFields P #[f0, f1] = true) (hC : P.cellsOf e = 2) (hi : P.underlying ti = some (.int .i64)) (h0 : f0.type = ti) (h1 : f1.type = ti)
    (hv : Value.okWide P w r b0 t v) (h : DataW.Trod enc P w base spare held t v d p) :
    ∃ A n c, v = .slice A n c ∧ n ≤ c ∧ c ≤ maxLen ∧ RdA w A n := by
  obtain ⟨A, n, c, rfl, hn, hc, hj⟩ := open_structs ht he hone hC hv h
  refine ⟨A, n, c, rfl, hn, hc, fun i hin => ?_⟩
  obtain ⟨a, m, rfl, hf⟩ := hj i hin
  obtain ⟨v0, y0, e0, t0⟩ := hf 0 f0 rfl
  obtain ⟨v1, y1, e1, t1⟩ := hf 1 f1 rfl
  obtain ⟨n0, k0, _, _⟩ := DataW.trod_int (by rw [h0]; exact hi) t0
  obtain ⟨n1, k1, _, w1⟩ := DataW.trod_int (by rw [h1]; exact hi) t1
  simp only [List.cons.injEq, and_true] at k0 k1
  subst k0 k1
  have kb : -9223372036854775808 ≤ n1 ∧ n1 ≤ 9223372036854775807 := bounds_int w1
  have hlt : a.block < w.heap.size := by have := cell_lt e0; rwa [block_of_add] at this
  change w.cell? (a.add (i * 2 + 0)) = _ at e0
  change w.cell? (a.add (i * 2 + 1)) = _ at e1
  rw [Nat.add_zero] at e0
  rw [add_more _ _ _ (by omega)] at e1
  have eb : (a.add (i * 2)).block = a.block := by unfold Addr.add; split <;> rfl
  exact ⟨a, n0, n1, rfl, kb.1, kb.2, fun w' hb => ⟨(hb.cell (p := a.add (i * 2)) (by rw [eb]; exact hlt)).trans e0, (hb.cell (p := ⟨(a.add (i * 2)).block, (a.add (i * 2)).off + 1, none⟩) (by rw [eb]; exact hlt)).trans e1⟩⟩
end Go.Proofs.YthmhehehomieiaaGreat

/- An entry of a script, and a slice of them, as arguments. -/
namespace Go.Proofs.YthmhehehomieiaaGreat
open Go.RowKit Go.ChangeShapes Go.WideShapes Go.Deep

/-- A number of the kind int. -/
def InI (n : Int) : Prop := -9223372036854775808 ≤ n ∧ n ≤ 9223372036854775807

set_option maxRecDepth 100000 in
theorem open_step {H : Type} {enc : TypeId × Value → H} {w : World} {base : Nat} {spare : Nat → Bool} {held : Bool} {r : Reach} {b0 : Nat} {v : Value} {d : DataW H} {p : List MemPlace}
    (hv : Value.okWide Tryz.prog w r b0 53 v) (h : DataW.Trod enc Tryz.prog w base spare held 53 v d p) :
    ∃ k a b c x : Int, v = sgV k a b c x ∧ InI b ∧ InI c := by
  obtain ⟨l, rfl, hl, m, hf⟩ := open_cells Tryz.underlying53 (by kernel_rfl) (by kernel_rfl) hv h
  obtain ⟨c0, y0, e0, t0⟩ := hf 0 _ rfl
  obtain ⟨c1, y1, e1, t1⟩ := hf 1 _ rfl
  obtain ⟨c2, y2, e2, t2⟩ := hf 2 _ rfl
  obtain ⟨c3, y3, e3, t3⟩ := hf 3 _ rfl
  obtain ⟨c4, y4, e4, t4⟩ := hf 4 _ rfl
  obtain ⟨n0, h0, _, _⟩ := DataW.trod_int Tryz.underlying3 t0
  obtain ⟨n1, h1, _, _⟩ := DataW.trod_int Tryz.underlying3 t1
  obtain ⟨n2, h2, _, w2⟩ := DataW.trod_int Tryz.underlying3 t2
  obtain ⟨n3, h3, _, w3⟩ := DataW.trod_int Tryz.underlying3 t3
  obtain ⟨n4, h4, _, _⟩ := DataW.trod_int Tryz.underlying51 t4
  simp only [List.cons.injEq, and_true] at h0 h1 h2 h3 h4
  subst h0 h1 h2 h3 h4
  refine ⟨n0, n1, n2, n3, n4, ?_, bounds_int w2, bounds_int w3⟩
  have hl5 : l.length = 5 := hl
  match l, hl5 with
  | [a0, a1, a2, a3, a4], _ =>
    simp at e0 e1 e2 e3 e4
    subst e0 e1 e2 e3 e4
    rfl

/-- A slice of entries as it came in: nil let in. -/
def RdSt (w : World) (A : Option Addr) (n : Nat) : Prop :=
  ∀ i, i < n → ∃ ad k a b c x, A = some ad ∧ InI b ∧ InI c ∧ ∀ w', Below w.heap.size w w' →
    w'.cell? (ad.add (i * 5)) = some (.int .i64 k) ∧ w'.cell? ⟨(ad.add (i * 5)).block, (ad.add (i * 5)).off + 1, none⟩ = some (.int .i64 a) ∧ w'.cell? ⟨(ad.add (i * 5)).block, (ad.add (i * 5)).off + 2, none⟩ = some (.int .i64 b) ∧
    w'.cell? ⟨(ad.add (i * 5)).block, (ad.add (i * 5)).off + 3, none⟩ = some (.int .i64 c) ∧ w'.cell? ⟨(ad.add (i * 5)).block, (ad.add (i * 5)).off + 4, none⟩ = some (.int .u64 x)

set_option maxRecDepth 100000 in
theorem open_steps {H : Type} {enc : TypeId × Value → H} {w : World} {base : Nat} {spare : Nat → Bool} {held : Bool} {r : Reach} {b0 : Nat} {v : Value} {d : DataW H} {p : List MemPlace}
    (hv : Value.okWide Tryz.prog w r b0 47 v) (h : DataW.Trod enc Tryz.prog w base spare held 47 v d p) :
    ∃ A n c, v = .slice A n c ∧ n ≤ c ∧ c ≤ maxLen ∧ RdSt w A n := by
  obtain ⟨A, n, c, rfl, hn, hc, hi⟩ := open_structs Tryz.underlying47 Tryz.underlying53 (by kernel_rfl) (by kernel_rfl) hv h
  refine ⟨A, n, c, rfl, hn, hc, fun i hin => ?_⟩
  obtain ⟨a, m, rfl, hf⟩ := hi i hin
  obtain ⟨v0, y0, e0, t0⟩ := hf 0 _ rfl
  obtain ⟨v1, y1, e1, t1⟩ := hf 1 _ rfl
  obtain ⟨v2, y2, e2, t2⟩ := hf 2 _ rfl
  obtain ⟨v3, y3, e3, t3⟩ := hf 3 _ rfl
  obtain ⟨v4, y4, e4, t4⟩ := hf 4 _ rfl
  obtain ⟨n0, h0, _, _⟩ := DataW.trod_int Tryz.underlying3 t0
  obtain ⟨n1, h1, _, _⟩ := DataW.trod_int Tryz.underlying3 t1
  obtain ⟨n2, h2, _, w2⟩ := DataW.trod_int Tryz.underlying3 t2
  obtain ⟨n3, h3, _, w3⟩ := DataW.trod_int Tryz.underlying3 t3
  obtain ⟨n4, h4, _, _⟩ := DataW.trod_int Tryz.underlying51 t4
  simp only [List.cons.injEq, and_true] at h0 h1 h2 h3 h4
  subst h0 h1 h2 h3 h4
  have hlt : a.block < w.heap.size := by have := cell_lt e0; rwa [block_of_add] at this
  change w.cell? (a.add (i * 5 + 0)) = _ at e0
  change w.cell? (a.add (i * 5 + 1)) = _ at e1
  change w.cell? (a.add (i * 5 + 2)) = _ at e2
  change w.cell? (a.add (i * 5 + 3)) = _ at e3
  change w.cell? (a.add (i * 5 + 4)) = _ at e4
  rw [Nat.add_zero] at e0
  rw [add_more _ _ _ (by omega)] at e1 e2 e3 e4
  have eb : (a.add (i * 5)).block = a.block := block_of_add _ _
  exact ⟨a, n0, n1, n2, n3, n4, rfl, bounds_int w2, bounds_int w3, fun w' hb => ⟨(hb.cell (p := a.add (i * 5)) (by rw [eb]; exact hlt)).trans e0,
    (hb.cell (p := ⟨(a.add (i * 5)).block, (a.add (i * 5)).off + 1, none⟩) (by rw [eb]; exact hlt)).trans e1, (hb.cell (p := ⟨(a.add (i * 5)).block, (a.add (i * 5)).off + 2, none⟩) (by rw [eb]; exact hlt)).trans e2,
    (hb.cell (p := ⟨(a.add (i * 5)).block, (a.add (i * 5)).off + 3, none⟩) (by rw [eb]; exact hlt)).trans e3, (hb.cell (p := ⟨(a.add (i * 5)).block, (a.add (i * 5)).off + 4, none⟩) (by rw [eb]; exact hlt)).trans e4⟩⟩
end Go.Proofs.YthmhehehomieiaaGreat

/- A configuration as an argument: its thirteen numbers, and that they fit their kind. -/
namespace Go.Proofs.YthmhehehomieiaaGreat
open Go.ChangeShapes Go.WideShapes Go.ChangeAt Go.RowKit Go.Deep

set_option maxRecDepth 100000 in
theorem open_conf {H : Type} {enc : TypeId × Value → H} {w : World} {base : Nat} {spare : Nat → Bool} {held : Bool} {r : Reach} {b0 : Nat} {v : Value} {d : DataW H} {p : List MemPlace}
    (hv : Value.okWide Tryz.prog w r b0 23 v) (h : DataW.Trod enc Tryz.prog w base spare held 23 v d p) :
    ∃ ha nu ps pz cd bf st tn lg mi ma na ja : Int, v = cfV ha nu ps pz cd bf st tn lg mi ma na ja := by
  obtain ⟨l, rfl, hl, m, hf⟩ := open_cells Tryz.underlying23 (by kernel_rfl) (by kernel_rfl) hv h
  obtain ⟨c0, y0, e0, t0⟩ := hf 0 _ rfl
  obtain ⟨c1, y1, e1, t1⟩ := hf 1 _ rfl
  obtain ⟨c2, y2, e2, t2⟩ := hf 2 _ rfl
  obtain ⟨c3, y3, e3, t3⟩ := hf 3 _ rfl
  obtain ⟨c4, y4, e4, t4⟩ := hf 4 _ rfl
  obtain ⟨c5, y5, e5, t5⟩ := hf 5 _ rfl
  obtain ⟨c6, y6, e6, t6⟩ := hf 6 _ rfl
  obtain ⟨c7, y7, e7, t7⟩ := hf 7 _ rfl
  obtain ⟨c8, y8, e8, t8⟩ := hf 8 _ rfl
  obtain ⟨c9, y9, e9, t9⟩ := hf 9 _ rfl
  obtain ⟨c10, y10, e10, t10⟩ := hf 10 _ rfl
  obtain ⟨c11, y11, e11, t11⟩ := hf 11 _ rfl
  obtain ⟨c12, y12, e12, t12⟩ := hf 12 _ rfl
  obtain ⟨n0, h0, _, _⟩ := DataW.trod_int Tryz.underlying3 t0
  obtain ⟨n1, h1, _, _⟩ := DataW.trod_int Tryz.underlying3 t1
  obtain ⟨n2, h2, _, _⟩ := DataW.trod_int Tryz.underlying3 t2
  obtain ⟨n3, h3, _, _⟩ := DataW.trod_int Tryz.underlying3 t3
  obtain ⟨n4, h4, _, _⟩ := DataW.trod_int Tryz.underlying3 t4
  obtain ⟨n5, h5, _, _⟩ := DataW.trod_int Tryz.underlying3 t5
  obtain ⟨n6, h6, _, _⟩ := DataW.trod_int Tryz.underlying3 t6
  obtain ⟨n7, h7, _, _⟩ := DataW.trod_int Tryz.underlying3 t7
  obtain ⟨n8, h8, _, _⟩ := DataW.trod_int Tryz.underlying3 t8
  obtain ⟨n9, h9, _, _⟩ := DataW.trod_int Tryz.underlying3 t9
  obtain ⟨n10, h10, _, _⟩ := DataW.trod_int Tryz.underlying3 t10
  obtain ⟨n11, h11, _, _⟩ := DataW.trod_int Tryz.underlying3 t11
  obtain ⟨n12, h12, _, _⟩ := DataW.trod_int Tryz.underlying3 t12
  simp only [List.cons.injEq, and_true] at h0 h1 h2 h3 h4 h5 h6 h7 h8 h9 h10 h11 h12
  subst h0 h1 h2 h3 h4 h5 h6 h7 h8 h9 h10 h11 h12
  refine ⟨n0, n1, n2, n3, n4, n5, n6, n7, n8, n9, n10, n11, n12, ?_⟩
  have hl13 : l.length = 13 := hl
  match l, hl13 with
  | [a0, a1, a2, a3, a4, a5, a6, a7, a8, a9, a10, a11, a12], _ =>
    simp at e0 e1 e2 e3 e4 e5 e6 e7 e8 e9 e10 e11 e12
    subst e0 e1 e2 e3 e4 e5 e6 e7 e8 e9 e10 e11 e12
    rfl
end Go.Proofs.YthmhehehomieiaaGreat

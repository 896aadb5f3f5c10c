/- Contracts of the program's graph: entries that ask. -/
import Derived.Test.YtjjjeeffllelaaaGgE
import Derived.LaidEqlPtr
namespace Go.Proofs.Ytjjjeeffllelaaa
open Go.RowKit

/-- What an entry that asks comes to: its answer; nothing has turned. -/
def AskP (w : World) (G : Gr) (k a b : Int) (e : Ending) (w' : World) : Prop :=
  e = .returned (anV (G.ask k a b).1 (G.ask k a b).2.1 (G.ask k a b).2.2.1 (G.ask k a b).2.2.2) ∧ Below w.heap.size w w'

theorem an_end (w : World) (e : Int) (y : Bool) (n u : Int) {V : World} (h : anW (w.alloc anB) w.heap.size e y n u = V) :
    Below w.heap.size w V ∧ Blk V w.heap.size #[.int .i64 e, .bool y, .int .i64 n, .int .u64 u] 30 := by
  have kb := Blk.new w #[.int .i64 0, .bool false, .int .i64 0, .int .u64 0] 30
  have al : Below w.heap.size w (w.alloc anB) := (Below.refl _ _).alloc (Nat.le_refl _) _
  have f := anW_frm (w.alloc anB) w.heap.size e y n u
  have k2 := anW_blk kb e y n u
  rw [h] at f k2
  exact ⟨Below.frm al f al.size fun k hk z => Nat.ne_of_lt hk z, k2⟩

theorem info_nod : ∃ j, Try.prog.info? 68 = some j ∧ j.size ≠ 0 := by
  obtain ⟨j, hj, hs⟩ := Option.map_eq_some_iff.1 (show (Try.prog.info? 68).map (fun i => i.size) = some 2 from by kernel_rfl)
  exact ⟨j, hj, by rw [hs]; decide⟩

/-- Two pointers to nodes are one where their numbers are. -/
theorem IsP.eqP {W : World} {g hb : Nat} {nd : List Pd} {hs : List Int} {lg : Int} (h : IsP W g hb nd hs lg) {x y : Int} (hx : 0 ≤ x ∧ x ≤ nd.length) (hy : 0 ≤ y ∧ y ≤ nd.length) :
    (binOp .eql 66 (ptV (bls nd) x) (ptV (bls nd) y)).run Try.prog W = .ok (.bool (x == y)) W := by
  obtain ⟨j, hj, hz⟩ := info_nod
  have hp := Try.underlying66
  have at_ : ∀ {z : Int}, 0 ≤ z ∧ z ≤ nd.length → z ≠ 0 → ∃ (k : Nat) (p : Pd), z = ((k + 1 : Nat) : Int) ∧ nd[k]? = some p := fun {z} hz nz => by
    refine ⟨z.toNat - 1, nd[z.toNat - 1]'(by omega), by omega, List.getElem?_eq_getElem (by omega)⟩
  by_cases x0 : x = 0
  · subst x0
    by_cases y0 : y = 0
    · subst y0
      have hh : ∀ d : Nat, (Op.equalIn (d + 1) 66 (.pointer none) (.pointer none)).run Try.prog W = .ok true W := fun d => by simp [Op.equalIn, run_underlying hp]
      simp only [binOp, ptV_zero]
      simp [Op.equal, Op.maxDepth, hh 9999]
    · obtain ⟨k, p, rfl, hk⟩ := at_ hy y0
      have hh : ∀ d : Nat, (Op.equalIn (d + 1) 66 (.pointer none) (.pointer (some ⟨p.nb, 0, none⟩))).run Try.prog W = .ok false W := fun d => by simp [Op.equalIn, run_underlying hp]
      rw [ptV_at hk, ptV_zero, show ((0 : Int) == ((k + 1 : Nat) : Int)) = false by simp; omega]
      simp only [binOp]
      simp [Op.equal, Op.maxDepth, hh 9999]
  · obtain ⟨k, p, rfl, hk⟩ := at_ hx x0
    by_cases y0 : y = 0
    · subst y0
      have hh : ∀ d : Nat, (Op.equalIn (d + 1) 66 (.pointer (some ⟨p.nb, 0, none⟩)) (.pointer none)).run Try.prog W = .ok false W := fun d => by simp [Op.equalIn, run_underlying hp]
      rw [ptV_at hk, ptV_zero, show (((k + 1 : Nat) : Int) == (0 : Int)) = false by simp; omega]
      simp only [binOp]
      simp [Op.equal, Op.maxDepth, hh 9999]
    · obtain ⟨m, q, rfl, hm⟩ := at_ hy y0
      rw [ptV_at hk, ptV_at hm]
      by_cases e : k = m
      · subst e
        rw [hk] at hm
        cases hm
        rw [run_eql_ptr_same W _ hp hj]
        simp
      · rw [run_eql_ptr_other (a := ⟨p.nb, 0, none⟩) (b := ⟨q.nb, 0, none⟩) W hp hj hz (fun z => (otherP_blk hm h.nap hk (Ne.symm e)).1 (by injection z)) (h.box p (List.mem_of_getElem? hk)) (h.box q (List.mem_of_getElem? hm)), show ((((k + 1 : Nat) : Int)) == ((m + 1 : Nat) : Int)) = false by simp; omega]

section
variable (w : World) (g : Nat) (S : Nat → Prop) (G : Gr) (a b : Int)

set_option maxRecDepth 100000 in
set_option maxHeartbeats 8000000 in
theorem pgNil (r : Pg w g S G) : Calls Try.prog 27 #[gP g, .int .i64 a] w fun e w' => AskP w G 9 a b e w' := by
  have al : Below w.heap.size w (w.alloc anB) := (Below.refl _ _).alloc (Nat.le_refl _) _
  obtain ⟨hb, nd, hi, eN, rfl⟩ := r.keep al
  have kb := Blk.new w #[.int .i64 0, .bool false, .int .i64 0, .int .u64 0] 30
  unfold AskP
  rcases hi.has_ a with ⟨e, h⟩ | ⟨i, x, rfl, e, hl, hx, hv, x0, x1⟩
  · have H := Lib.hid (hd_no hi h)
    have EA := Lib.hid (show G.ask 9 a b = (3, false, 0, 0) by simp [Gr.ask, e])
    clear hi h e r eN al
    unfold gP at *
    go_enter Try.func27, Try.ntmps27
    go_wp2_with fail
    refine H.out.mono ?_
    rintro e w1 ⟨rfl, rfl⟩
    have HE := Lib.hid (an_end w 3 false 0 0 rfl)
    generalize hW : w.alloc anB = W at *
    clear hW
    have z0 := kb.cell 0
    have z1 := kb.cell 1
    have z2 := kb.cell 2
    have z3 := kb.cell 3
    have zf := kb.frozen
    have zl := kb.lt
    go_wp2_with fail
    unfold anW at HE
    generalize (((W.setCell ⟨w.heap.size, 0, none⟩ (.int .i64 3)).setCell ⟨w.heap.size, 1, none⟩ (.bool false)).setCell ⟨w.heap.size, 2, none⟩ (.int .i64 0)).setCell ⟨w.heap.size, 3, none⟩ (.int .u64 0) = V at HE ⊢
    clear z0 z1 z2 z3 zf
    have y0 := HE.out.2.cell 0
    have y1 := HE.out.2.cell 1
    have y2 := HE.out.2.cell 2
    have y3 := HE.out.2.cell 3
    refine bodyPost_ret (v := anV 3 false 0 0) (by simp [results, Try.results27, go_sem, y0, y1, y2, y3]) rfl ?_
    exact ⟨by rw [EA.out], HE.out.1⟩
  · have H := Lib.hid (hd_yes hi hx)
    have EA := Lib.hid (show G.ask 9 i b = (0, x == 0, 0, 0) by simp [Gr.ask, e, hv])
    by_cases z : x = 0
    · subst z
      rw [ptV_zero] at H
      rw [show ((0 : Int) == 0) = true from rfl] at EA
      clear hi e r eN al hx hv x0 x1
      unfold gP at *
      go_enter Try.func27, Try.ntmps27
      go_wp2_with fail
      refine H.out.mono ?_
      rintro e w1 ⟨rfl, rfl⟩
      have HE := Lib.hid (an_end w 0 true 0 0 rfl)
      generalize hW : w.alloc anB = W at *
      clear hW
      have z0 := kb.cell 0
      have z1 := kb.cell 1
      have z2 := kb.cell 2
      have z3 := kb.cell 3
      have zf := kb.frozen
      have zl := kb.lt
      go_wp2_with fail
      unfold anW at HE
      generalize (((W.setCell ⟨w.heap.size, 0, none⟩ (.int .i64 0)).setCell ⟨w.heap.size, 1, none⟩ (.bool true)).setCell ⟨w.heap.size, 2, none⟩ (.int .i64 0)).setCell ⟨w.heap.size, 3, none⟩ (.int .u64 0) = V at HE ⊢
      clear z0 z1 z2 z3 zf
      have y0 := HE.out.2.cell 0
      have y1 := HE.out.2.cell 1
      have y2 := HE.out.2.cell 2
      have y3 := HE.out.2.cell 3
      refine bodyPost_ret (v := anV 0 true 0 0) (by simp [results, Try.results27, go_sem, y0, y1, y2, y3]) rfl ?_
      exact ⟨by rw [EA.out], HE.out.1⟩
    · obtain ⟨k, y, rfl, hy, ey, ek⟩ := nodeP_at eN (x := x) (by omega) x1
      rw [ptV_at hy] at H
      rw [show ((((k + 1 : Nat) : Int)) == 0) = false by simp; omega] at EA
      clear hi e r eN al hx hv x0 x1 hy ey ek
      unfold gP at *
      go_enter Try.func27, Try.ntmps27
      go_wp2_with fail
      refine H.out.mono ?_
      rintro e w1 ⟨rfl, rfl⟩
      have HE := Lib.hid (an_end w 0 false 0 0 rfl)
      generalize hW : w.alloc anB = W at *
      clear hW
      have z0 := kb.cell 0
      have z1 := kb.cell 1
      have z2 := kb.cell 2
      have z3 := kb.cell 3
      have zf := kb.frozen
      have zl := kb.lt
      go_wp2_with fail
      unfold anW at HE
      generalize (((W.setCell ⟨w.heap.size, 0, none⟩ (.int .i64 0)).setCell ⟨w.heap.size, 1, none⟩ (.bool false)).setCell ⟨w.heap.size, 2, none⟩ (.int .i64 0)).setCell ⟨w.heap.size, 3, none⟩ (.int .u64 0) = V at HE ⊢
      clear z0 z1 z2 z3 zf
      have y0 := HE.out.2.cell 0
      have y1 := HE.out.2.cell 1
      have y2 := HE.out.2.cell 2
      have y3 := HE.out.2.cell 3
      refine bodyPost_ret (v := anV 0 false 0 0) (by simp [results, Try.results27, go_sem, y0, y1, y2, y3]) rfl ?_
      exact ⟨by rw [EA.out], HE.out.1⟩

set_option maxRecDepth 100000 in
set_option maxHeartbeats 8000000 in
theorem pgSame (r : Pg w g S G) : Calls Try.prog 26 #[gP g, .int .i64 a, .int .i64 b] w fun e w' => AskP w G 8 a b e w' := by
  have al : Below w.heap.size w (w.alloc anB) := (Below.refl _ _).alloc (Nat.le_refl _) _
  obtain ⟨hb, nd, hi, eN, rfl⟩ := r.keep al
  have kb := Blk.new w #[.int .i64 0, .bool false, .int .i64 0, .int .u64 0] 30
  unfold AskP
  rcases hi.has_ a with ⟨e, h⟩ | ⟨i, x, rfl, e, hl, hx, hv, x0, x1⟩
  · have H := Lib.hid (hd_no hi h)
    have EA := Lib.hid (show G.ask 8 a b = (3, false, 0, 0) by simp [Gr.ask, e])
    clear hi h e r eN al
    unfold gP at *
    go_enter Try.func26, Try.ntmps26
    go_wp2_with fail
    refine H.out.mono ?_
    rintro e w1 ⟨rfl, rfl⟩
    have HE := Lib.hid (an_end w 3 false 0 0 rfl)
    generalize hW : w.alloc anB = W at *
    clear hW
    have z0 := kb.cell 0
    have z1 := kb.cell 1
    have z2 := kb.cell 2
    have z3 := kb.cell 3
    have zf := kb.frozen
    have zl := kb.lt
    go_wp2_with fail
    unfold anW at HE
    generalize (((W.setCell ⟨w.heap.size, 0, none⟩ (.int .i64 3)).setCell ⟨w.heap.size, 1, none⟩ (.bool false)).setCell ⟨w.heap.size, 2, none⟩ (.int .i64 0)).setCell ⟨w.heap.size, 3, none⟩ (.int .u64 0) = V at HE ⊢
    clear z0 z1 z2 z3 zf
    have y0 := HE.out.2.cell 0
    have y1 := HE.out.2.cell 1
    have y2 := HE.out.2.cell 2
    have y3 := HE.out.2.cell 3
    refine bodyPost_ret (v := anV 3 false 0 0) (by simp [results, Try.results26, go_sem, y0, y1, y2, y3]) rfl ?_
    exact ⟨by rw [EA.out], HE.out.1⟩
  · have H := Lib.hid (hd_yes hi hx)
    rcases hi.has_ b with ⟨e2, h⟩ | ⟨j, y, rfl, e2, jl, hy, yv, y0, y1⟩
    · have K := Lib.hid (hd_no hi h)
      have EA := Lib.hid (show G.ask 8 i b = (3, false, 0, 0) by simp [Gr.ask, e, e2])
      clear hi h e e2 r eN al hx hv x0 x1
      unfold gP ptV at *
      go_enter Try.func26, Try.ntmps26
      go_wp2_with fail
      refine H.out.mono ?_
      rintro e w1 ⟨rfl, rfl⟩
      go_wp2_with fail
      refine K.out.mono ?_
      rintro e w1 ⟨rfl, rfl⟩
      have HE := Lib.hid (an_end w 3 false 0 0 rfl)
      generalize hW : w.alloc anB = W at *
      clear hW
      have z0 := kb.cell 0
      have z1 := kb.cell 1
      have z2 := kb.cell 2
      have z3 := kb.cell 3
      have zf := kb.frozen
      have zl := kb.lt
      go_wp2_with fail
      unfold anW at HE
      generalize (((W.setCell ⟨w.heap.size, 0, none⟩ (.int .i64 3)).setCell ⟨w.heap.size, 1, none⟩ (.bool false)).setCell ⟨w.heap.size, 2, none⟩ (.int .i64 0)).setCell ⟨w.heap.size, 3, none⟩ (.int .u64 0) = V at HE ⊢
      clear z0 z1 z2 z3 zf
      have y0 := HE.out.2.cell 0
      have y1 := HE.out.2.cell 1
      have y2 := HE.out.2.cell 2
      have y3 := HE.out.2.cell 3
      refine bodyPost_ret (v := anV 3 false 0 0) (by simp [results, Try.results26, go_sem, y0, y1, y2, y3]) rfl ?_
      exact ⟨by rw [EA.out], HE.out.1⟩
    · have K := Lib.hid (hd_yes hi hy)
      have EA := Lib.hid (show G.ask 8 i j = (0, x == y, 0, 0) by simp [Gr.ask, e, e2, hv, yv])
      have eq1 := hi.eqP ⟨x0, x1⟩ ⟨y0, y1⟩
      clear hi e e2 r eN al hx hv x0 x1 hy yv y0 y1
      unfold gP ptV at *
      go_enter Try.func26, Try.ntmps26
      go_wp2_with fail
      refine H.out.mono ?_
      rintro e w1 ⟨rfl, rfl⟩
      go_wp2_with fail
      refine K.out.mono ?_
      rintro e w1 ⟨rfl, rfl⟩
      have HE := Lib.hid (an_end w 0 (x == y) 0 0 rfl)
      generalize hW : w.alloc anB = W at *
      clear hW
      have z0 := kb.cell 0
      have z1 := kb.cell 1
      have z2 := kb.cell 2
      have z3 := kb.cell 3
      have zf := kb.frozen
      have zl := kb.lt
      go_wp2_with fail
      unfold anW at HE
      generalize (((W.setCell ⟨w.heap.size, 0, none⟩ (.int .i64 0)).setCell ⟨w.heap.size, 1, none⟩ (.bool (x == y))).setCell ⟨w.heap.size, 2, none⟩ (.int .i64 0)).setCell ⟨w.heap.size, 3, none⟩ (.int .u64 0) = V at HE ⊢
      clear z0 z1 z2 z3 zf
      have y0 := HE.out.2.cell 0
      have y1 := HE.out.2.cell 1
      have y2 := HE.out.2.cell 2
      have y3 := HE.out.2.cell 3
      refine bodyPost_ret (v := anV 0 (x == y) 0 0) (by simp [results, Try.results26, go_sem, y0, y1, y2, y3]) rfl ?_
      exact ⟨by rw [EA.out], HE.out.1⟩

set_option maxRecDepth 100000 in
set_option maxHeartbeats 8000000 in
theorem pgRead (r : Pg w g S G) : Calls Try.prog 22 #[gP g, .int .i64 a, .int .i64 b] w fun e w' => AskP w G 4 a b e w' := by
  have al : Below w.heap.size w (w.alloc anB) := (Below.refl _ _).alloc (Nat.le_refl _) _
  obtain ⟨hb, nd, hi, eN, rfl⟩ := r.keep al
  have kb := Blk.new w #[.int .i64 0, .bool false, .int .i64 0, .int .u64 0] 30
  unfold AskP
  rcases hi.wrong_ eN a with ⟨x, ew, nx, hC⟩ | ⟨j, k, y, rfl, ew, hy, hk, hv, ey, ek⟩
  · have H := Lib.hid (sca_err a b x nx hC)
    have q : (x != 0) = true := by simpa using nx
    have EA := Lib.hid (show G.ask 4 a b = (x, false, 0, 0) by unfold Gr.ask; rw [if_pos rfl, ew, if_neg nx])
    clear hi hC ew nx r eN al
    unfold gP at *
    go_enter Try.func22, Try.ntmps22
    go_wp2_with fail
    refine H.out.mono ?_
    rintro e w1 ⟨rfl, rfl⟩
    have HE := Lib.hid (an_end w x false 0 0 rfl)
    generalize hW : w.alloc anB = W at *
    clear hW
    have z0 := kb.cell 0
    have z1 := kb.cell 1
    have z2 := kb.cell 2
    have z3 := kb.cell 3
    have zf := kb.frozen
    have zl := kb.lt
    go_wp2_with fail
    unfold anW at HE
    generalize (((W.setCell ⟨w.heap.size, 0, none⟩ (.int .i64 x)).setCell ⟨w.heap.size, 1, none⟩ (.bool false)).setCell ⟨w.heap.size, 2, none⟩ (.int .i64 0)).setCell ⟨w.heap.size, 3, none⟩ (.int .u64 0) = V at HE ⊢
    clear z0 z1 z2 z3 zf
    have y0 := HE.out.2.cell 0
    have y1 := HE.out.2.cell 1
    have y2 := HE.out.2.cell 2
    have y3 := HE.out.2.cell 3
    refine bodyPost_ret (v := anV x false 0 0) (by simp [results, Try.results22, go_sem, y0, y1, y2, y3]) rfl ?_
    exact ⟨by rw [EA.out], HE.out.1⟩
  · by_cases hc : 0 ≤ b ∧ b < y.ss.length
    · obtain ⟨m, rfl⟩ : ∃ m : Nat, b = m := ⟨b.toNat, by omega⟩
      have hm : m < y.ss.length := by omega
      have mem := List.mem_of_getElem? hk
      have H := Lib.hid (sca_yes hi hy hk hm)
      obtain ⟨z, hz'⟩ : ∃ z, y.ss[m]? = some z := ⟨_, List.getElem?_eq_getElem hm⟩
      have cz : (w.alloc anB).cell? ⟨y.sb, m, none⟩ = some (.int .u64 z) := by rw [(hi.sca y mem).cell]; simp [wordsU, hz']
      have EA := Lib.hid (show G.ask 4 j m = (0, false, 0, z) by
        unfold Gr.ask
        rw [if_pos rfl, if_pos ew, ey, if_pos ⟨by omega, by dsimp only; omega⟩, Int.toNat_natCast, List.getD_eq_getElem?_getD, hz']
        rfl)
      clear hi r eN al hy hk hv ey ek ew hz' hc mem
      unfold gP at *
      go_enter Try.func22, Try.ntmps22
      go_wp2_with fail
      refine H.out.mono ?_
      rintro e w1 ⟨rfl, rfl⟩
      have HE := Lib.hid (an_end w 0 false 0 z rfl)
      generalize hW : w.alloc anB = W at *
      clear hW
      have z0 := kb.cell 0
      have z1 := kb.cell 1
      have z2 := kb.cell 2
      have z3 := kb.cell 3
      have zf := kb.frozen
      have zl := kb.lt
      go_wp2_with fail
      unfold anW at HE
      generalize (((W.setCell ⟨w.heap.size, 0, none⟩ (.int .i64 0)).setCell ⟨w.heap.size, 1, none⟩ (.bool false)).setCell ⟨w.heap.size, 2, none⟩ (.int .i64 0)).setCell ⟨w.heap.size, 3, none⟩ (.int .u64 z) = V at HE ⊢
      clear z0 z1 z2 z3 zf
      have y0 := HE.out.2.cell 0
      have y1 := HE.out.2.cell 1
      have y2 := HE.out.2.cell 2
      have y3 := HE.out.2.cell 3
      refine bodyPost_ret (v := anV 0 false 0 z) (by simp [results, Try.results22, go_sem, y0, y1, y2, y3]) rfl ?_
      exact ⟨by rw [EA.out], HE.out.1⟩
    · have H := Lib.hid (sca_far hi hy hk (b := b) (by omega))
      have EA := Lib.hid (show G.ask 4 j b = (5, false, 0, 0) by
        unfold Gr.ask
        rw [if_pos rfl, if_pos ew, ey, if_neg hc])
      clear hi r eN al hy hk hv ey ek ew hc
      unfold gP at *
      go_enter Try.func22, Try.ntmps22
      go_wp2_with fail
      refine H.out.mono ?_
      rintro e w1 ⟨rfl, rfl⟩
      have HE := Lib.hid (an_end w 5 false 0 0 rfl)
      generalize hW : w.alloc anB = W at *
      clear hW
      have z0 := kb.cell 0
      have z1 := kb.cell 1
      have z2 := kb.cell 2
      have z3 := kb.cell 3
      have zf := kb.frozen
      have zl := kb.lt
      go_wp2_with fail
      unfold anW at HE
      generalize (((W.setCell ⟨w.heap.size, 0, none⟩ (.int .i64 5)).setCell ⟨w.heap.size, 1, none⟩ (.bool false)).setCell ⟨w.heap.size, 2, none⟩ (.int .i64 0)).setCell ⟨w.heap.size, 3, none⟩ (.int .u64 0) = V at HE ⊢
      clear z0 z1 z2 z3 zf
      have y0 := HE.out.2.cell 0
      have y1 := HE.out.2.cell 1
      have y2 := HE.out.2.cell 2
      have y3 := HE.out.2.cell 3
      refine bodyPost_ret (v := anV 5 false 0 0) (by simp [results, Try.results22, go_sem, y0, y1, y2, y3]) rfl ?_
      exact ⟨by rw [EA.out], HE.out.1⟩

set_option maxRecDepth 100000 in
set_option maxHeartbeats 8000000 in
theorem pgShape (r : Pg w g S G) : Calls Try.prog 28 #[gP g, .int .i64 a] w fun e w' => AskP w G 10 a b e w' := by
  have al : Below w.heap.size w (w.alloc anB) := (Below.refl _ _).alloc (Nat.le_refl _) _
  obtain ⟨hb, nd, hi, eN, rfl⟩ := r.keep al
  have kb := Blk.new w #[.int .i64 0, .bool false, .int .i64 0, .int .u64 0] 30
  unfold AskP
  rcases hi.wrong_ eN a with ⟨x, ew, nx, hC⟩ | ⟨j, k, y, rfl, ew, hy, hk, hv, ey, ek⟩
  · have H := Lib.hid hC
    have q : (x != 0) = true := by simpa using nx
    have EA := Lib.hid (show G.ask 10 a b = (x, false, 0, 0) by unfold Gr.ask; rw [if_neg (by decide), if_pos rfl, ew, if_neg nx])
    clear hi hC ew nx r eN al
    unfold gP at *
    go_enter Try.func28, Try.ntmps28
    go_wp2_with fail
    refine H.out.mono ?_
    rintro e w1 ⟨rfl, rfl⟩
    have HE := Lib.hid (an_end w x false 0 0 rfl)
    generalize hW : w.alloc anB = W at *
    clear hW
    have z0 := kb.cell 0
    have z1 := kb.cell 1
    have z2 := kb.cell 2
    have z3 := kb.cell 3
    have zf := kb.frozen
    have zl := kb.lt
    go_wp2_with fail
    unfold anW at HE
    generalize (((W.setCell ⟨w.heap.size, 0, none⟩ (.int .i64 x)).setCell ⟨w.heap.size, 1, none⟩ (.bool false)).setCell ⟨w.heap.size, 2, none⟩ (.int .i64 0)).setCell ⟨w.heap.size, 3, none⟩ (.int .u64 0) = V at HE ⊢
    clear z0 z1 z2 z3 zf
    have y0 := HE.out.2.cell 0
    have y1 := HE.out.2.cell 1
    have y2 := HE.out.2.cell 2
    have y3 := HE.out.2.cell 3
    refine bodyPost_ret (v := anV x false 0 0) (by simp [results, Try.results28, go_sem, y0, y1, y2, y3]) rfl ?_
    exact ⟨by rw [EA.out], HE.out.1⟩
  · have H := Lib.hid (nod_yes hi hy hk)
    have mem := List.mem_of_getElem? hk
    have bx := hi.box y mem
    have c0 := bx.cell 0
    have c1 := bx.cell 1
    have lb := bx.lt
    have hz := hi.size y mem
    have EA := Lib.hid (show G.ask 10 j b = (0, false, (y.ps.length : Int), (y.ss.length : Int)) by
      unfold Gr.ask
      rw [if_neg (by decide), if_pos rfl, if_pos ew, ey])
    clear hi r eN al hy hk hv ey ek ew mem bx
    unfold gP pdB at *
    generalize y.ps.length = P at *
    generalize y.ss.length = Q at *
    have wv : IntKind.u64.wrap (Q : Int) = (Q : Int) := by rw [IntKind.wrap_u64]; omega
    go_enter Try.func28, Try.ntmps28
    go_wp2_with fail
    refine H.out.mono ?_
    rintro e w1 ⟨rfl, rfl⟩
    have HE := Lib.hid (an_end w 0 false P Q rfl)
    generalize hW : w.alloc anB = W at *
    clear hW
    have z0 := kb.cell 0
    have z1 := kb.cell 1
    have z2 := kb.cell 2
    have z3 := kb.cell 3
    have zf := kb.frozen
    have zl := kb.lt
    go_wp2_with fail
    go_region
    unfold anW at HE
    generalize (((W.setCell ⟨w.heap.size, 0, none⟩ (.int .i64 0)).setCell ⟨w.heap.size, 1, none⟩ (.bool false)).setCell ⟨w.heap.size, 2, none⟩ (.int .i64 P)).setCell ⟨w.heap.size, 3, none⟩ (.int .u64 Q) = V at HE ⊢
    clear z0 z1 z2 z3 zf
    have y0 := HE.out.2.cell 0
    have y1 := HE.out.2.cell 1
    have y2 := HE.out.2.cell 2
    have y3 := HE.out.2.cell 3
    have y0 : V.drew.cell? ⟨w.heap.size, 0, none⟩ = _ := y0
    have y1 : V.drew.cell? ⟨w.heap.size, 1, none⟩ = _ := y1
    have y2 : V.drew.cell? ⟨w.heap.size, 2, none⟩ = _ := y2
    have y3 : V.drew.cell? ⟨w.heap.size, 3, none⟩ = _ := y3
    go_wp2
    refine bodyPost_ret (v := anV 0 false P Q) (by simp [results, Try.results28, go_sem, y0, y1, y2, y3]) rfl ?_
    exact ⟨by rw [EA.out], below_trans HE.out.1 (below_drew _)⟩

end
end Go.Proofs.Ytjjjeeffllelaaa
